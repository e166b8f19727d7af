/-
  PointFirst walked.
  PointFirst, proved: of a name that was not there, behind a crash at any call of a Write: none, or what was written.
-/
import Derived.Test.YtfjanenooembkaaDoorQ8
import Derived.Test.YtfjanenooembkaaDoorQ1
import Derived.Test.YtfjanenooembkaaDoorQ8a
namespace Go.Proofs.YtfjanenooembkaaDoor
open Go.RowKit Go.Maps Go.Sort

set_option maxRecDepth 100000 in
set_option maxHeartbeats 4000000 in
theorem pointFirst_any (w : World) (p : Nat → Addr) (hs : Sents w p) (ht : Tabs w) (Ab Az : Option Addr) (cb cz nb nz : Nat) (b : List UInt8) (at_ : Int) (zs : List Int) (hnb : b.length = nb) (hnz : zs.length = nz)
    (hb : Arg w Ab cb b) (hz : IntsArg w Az cz zs) (hat : -9223372036854775808 ≤ at_ ∧ at_ ≤ 9223372036854775807) :
    Calls Tryd.prog 4 #[.slice Ab nb cb, .int .i64 at_, .slice Az nz cz] w fun e w' => e = .returned (.bool true) ∧ Below w.heap.size w w' := by
  have HFI := hide (ptFirst_any w)
  have HS := hide hs
  have HT := hide ht
  have HW4 : Hid (4 ≤ w.heap.size) := hide ht.size
  have HB := hide hb
  have HZ := hide hz
  have HNB := hide hnb
  have HNZ := hide hnz
  clear hs ht hb hz hnb hnz
  by_cases lb : 200 < nb
  · go_enter Tryd.func4, Tryd.ntmps4
    go_wp2_with (first | (go_at_call 9; refine HFI.out.mono ?_; rintro e w1 ⟨rfl, hb1⟩; have HB1 := hide hb1; clear hb1) | fail)
    go_ret
    exact ⟨rfl, HB1.out⟩
  by_cases lz : 10 < nz
  · go_enter Tryd.func4, Tryd.ntmps4
    go_wp2_with (first | (go_at_call 9; refine HFI.out.mono ?_; rintro e w1 ⟨rfl, hb1⟩; have HB1 := hide hb1; clear hb1) | fail)
    go_ret
    exact ⟨rfl, HB1.out⟩
  have HNW := hide (fun W => new_sessS 1000 W W (Below.refl _ _) (by omega) (by omega))
  obtain ⟨hf0, hst⟩ := Dk.point_first b (by have := HNB.out; omega)
  have HF0 := hide hf0
  have HST := hide hst
  have hltN : num at_ 10 < 10 := num_lt at_ 10 (by omega)
  obtain ⟨N, hN⟩ : ∃ N, num at_ 10 = N := ⟨_, rfl⟩
  rw [hN] at hltN
  have HNN := hide hN
  have HNL := hide hltN
  clear hN hltN hf0 hst
  go_enter Tryd.func4, Tryd.ntmps4
  go_wp2_with (first
    | (go_at_call 9; refine HFI.out.mono ?_; rintro e w1 ⟨rfl, hb1⟩; have HB1 := hide hb1; have HAB := hide (HB.out.below hb1 (Nat.le_refl _)); have HAZ := hide (HZ.out.below hb1 (Nat.le_refl _)); have HS1 : Hid (SentsP w1 p) := hide ((HS.out.below hb1).mono fun j hj => by omega); have HT1 := hide (HT.out.below hb1 (Nat.le_refl _)); have HW1 : Hid (4 ≤ w1.heap.size) := hide (Nat.le_trans HW4.out hb1.size); clear hb1)
    | (go_at_call 10; refine (HNW.out w1).mono ?_; rintro e w2 ⟨Bd, rfl, h2, -⟩; have H2 := hide h2; clear h2)
    | (go_at_call 12; refine (ptRead_none H2.out p HS1.out [113] (by decide) 6 HF0.out).mono ?_; rintro e w3 ⟨rfl, hb3⟩; have H3 := hide (H2.out.grow hb3); clear hb3; unfold errV)
    | (go_at_call 14; refine (num_at at_ 10 10 w3 (by omega) (by omega) (by omega) hat.1 hat.2).mono ?_; rintro e w3' ⟨rfl, rfl⟩; rw [HNN.out])
    | (go_at_call 15; refine (H3.out.armS (N : Int) (by have := HNL.out; omega)).mono ?_; rintro e w6 ⟨rfl, h6, -⟩; have H6 := hide h6; clear h6)
    | fail)
  refine (ptWrite_ok H6.out p HS1.out HT1.out HW1.out (by omega) [113] (by decide) (by decide) (by decide) Ab cb nb b (HAB.out.below H6.out.below (Nat.le_refl _)) HNB.out (by omega) (H6.out.clear HAB.out)).mono ?_
  rintro e w7 ⟨id2, -, rfl, h7⟩
  obtain ⟨r, sB, e2, hr, st2⟩ := HST.out (N : Int) (by omega) id2
  rw [e2] at h7 ⊢
  obtain ⟨S7, h7, -⟩ := h7
  have H7 := hide h7
  have ST2 := hide st2
  clear h7 e2 st2 HST H6 H3 H2
  go_wp2_with fail
  refine (H7.out.crash (by omega) Az cz nz zs (HAZ.out.below H7.out.below (Nat.le_refl _)) HNZ.out (H7.out.clearI HAZ.out)).mono ?_
  rintro e w9 ⟨rfl, ys, ⟨hy, hyr⟩, h9, -⟩
  have hk := ST2.out zs ys hy hyr
  generalize sB.crash zs ys = sC at *
  have H9 := hide h9
  clear h9 hy hyr ST2 H7
  have hne := fun W => eql_nil (p 9) W
  unfold errV at hne
  rcases hr with rfl | rfl
  · have KX : Hid (Dk.Kp sC [113] b) := hide (by rcases hk with h | ⟨h, -⟩; exact h; cases h)
    clear hk
    simp only [errR]
    go_wp2_with (first
      | (go_at_call 12; refine (ptRead_kept H9.out p HS1.out HT1.out (by omega) [113] (by decide) b nb HNB.out (by omega) KX.out).mono ?_; rintro e w10 ⟨A10, c10, rfl, ha10, hb10⟩; have HA10 := hide ha10; have H10 := hide (H9.out.grow hb10); clear ha10 hb10)
      | (go_at_call 13; refine (sameBytes_any A10 Ab c10 cb nb nb b b w10 HNB.out HNB.out (by omega) (by omega) HA10.out.reads (HAB.out.below H10.out.below (Nat.le_refl _)).reads).mono ?_; rintro e w11 ⟨he, q, hq⟩; rw [decide_eq_true (rfl : b = b)] at he; subst he; have H11 := hide (H10.out.grow (show Below w10.heap.size w10 w11 by rw [hq]; exact below_drewN (Below.refl _ _) q)); clear hq)
      | fail)
    go_ret
    exact ⟨rfl, HB1.out.trans (H11.out.below.mono HB1.out.size)⟩
  · rcases hk with hk | ⟨-, hk⟩
    · have KX := hide hk
      clear hk
      simp only [errR]
      unfold errV
      go_wp2_with (first
        | (go_at_call 12; refine (ptRead_kept H9.out p HS1.out HT1.out (by omega) [113] (by decide) b nb HNB.out (by omega) KX.out).mono ?_; rintro e w10 ⟨A10, c10, rfl, ha10, hb10⟩; have HA10 := hide ha10; have H10 := hide (H9.out.grow hb10); clear ha10 hb10)
        | (have _t := H13; go_at_call 13; refine (sameBytes_any A10 Ab c10 cb nb nb b b w13 HNB.out HNB.out (by omega) (by omega) HA13.out.reads (HAB.out.below H13.out.below (Nat.le_refl _)).reads).mono ?_; rintro e w14 ⟨he, q, hq⟩; rw [decide_eq_true (rfl : b = b)] at he; subst he; have H14 := hide (H13.out.grow (show Below w13.heap.size w13 w14 by rw [hq]; exact below_drewN (Below.refl _ _) q)); clear hq)
        | (have _t := H12; go_at_call 17; refine (is_nil 107 w12).mono ?_; rintro e w13 ⟨he, hb13⟩; rw [decide_eq_false (by decide)] at he; subst he; have H13 := hide (H12.out.grow hb13); have HA13 := hide (HA12.out.below hb13 (Nat.le_refl _)); clear hb13 H12)
        | (have _t := H10; go_at_call 17; refine (is_sent w10 p (HS.out.below (HB1.out.trans (H10.out.below.mono HB1.out.size))) 6 (by decide) 107).mono ?_; rintro e w12 ⟨he, hb12⟩; rw [decide_eq_true (by decide)] at he; subst he; have H12 := hide (H10.out.grow hb12); have HA12 := hide (HA10.out.below hb12 (Nat.le_refl _)); clear hb12 H10)
        | fail)
      go_ret
      exact ⟨rfl, HB1.out.trans (H14.out.below.mono HB1.out.size)⟩
    · have KX := hide hk
      clear hk
      simp only [errR]
      unfold errV
      go_wp2_with (first
        | (go_at_call 12; refine (ptRead_none H9.out p HS1.out [113] (by decide) 6 KX.out).mono ?_; rintro e w10 ⟨rfl, hb10⟩; have H10 := hide (H9.out.grow hb10); clear hb10; unfold errV)
        | (have _t := H12; go_at_call 17; refine (is_sent w12 p (HS.out.below (HB1.out.trans (H12.out.below.mono HB1.out.size))) 6 (by decide) 107).mono ?_; rintro e w13 ⟨he, hb13⟩; rw [decide_eq_true (by decide)] at he; subst he; have H13 := hide (H12.out.grow hb13); clear hb13 H12)
        | (have _t := H10; go_at_call 17; refine (is_sent w10 p (HS.out.below (HB1.out.trans (H10.out.below.mono HB1.out.size))) 6 (by decide) 107).mono ?_; rintro e w12 ⟨he, hb12⟩; rw [decide_eq_true (by decide)] at he; subst he; have H12 := hide (H10.out.grow hb12); clear hb12 H10)
        | fail)
      go_ret
      exact ⟨rfl, HB1.out.trans (H13.out.below.mono HB1.out.size)⟩
end Go.Proofs.YtfjanenooembkaaDoor

namespace Go.Proofs.YtfjanenooembkaaDoor.PFirstLaw
open Go.Proofs.YtfjanenooembkaaDoor
open Go.RowKit Go.ChangeShapes Go.WideShapes Go.ChangeAt

set_option maxRecDepth 100000 in
theorem lifted (os : Os) (started : os.Started) (H : Type) (enc : TypeId × Value → H) :
    ReturnsInHanded {} Tryd.checked os 4 .any (fun w args => (Rows.pointFirstSpec.pre enc Tryd.prog Tryd.f4 [] false w args ∧ laidMetH Tryd.prog laidAll w) ∧ sizedMet enc Tryd.prog Tryd.f4 (OpenSpec.ofChange Rows.pointFirstSpec) false w args)
      (Rows.pointFirstSpec.post enc Tryd.prog Tryd.f4 false true false false) := by
  refine returnsInHanded_of_change_and (C := Tryd.checked) (X := fun w _ => laidMetH Tryd.prog laidAll w) (fun _ _ _ hh h => h.of_heap hh) own started (by kernel_rfl) Tryd.func4
    (ChangeSpec.witness_shaped (enc := enc) (C := Tryd.checked) (os := os) (X := fun w _ => laidMetH Tryd.prog laidAll w) false (World.doorLaid Tryd.prog 400 os) #[.slice none 0 0, .int .i64 0, .slice none 0 0] 8 rfl (World.shaped_of_RefB (by kernel_rfl) (by kernel_rfl)) (by kernel_rfl) (by kernel_rfl) (by kernel_rfl) (door_met_all os _)) ?_
  intro W base args ds gs before hval0 hW _ _ hL _
  have hval : ∀ (j : Nat) t v, Tryd.f4.params[j]? = some t → args[j]? = some v → Value.okWide Tryd.prog W .any base t v := hval0
  have hW' := hW
  obtain ⟨p, q, hA0, hV, rfl, hfz, hnd⟩ := hW
  have hA : DataW.TrodAll enc Tryd.prog W 0 (fun _ => true) true Tryd.f4.params.toList args.toList ds p := hA0
  rw [Tryd.params4] at hA hval
  obtain ⟨v0, vs0, d0, ds0, p0, q0, hargs, rfl, rfl, h0, r0⟩ := trodAll_cons hA
  obtain ⟨v1, vs1, d1, ds1, p1, q1, rfl, rfl, rfl, h1, r1⟩ := trodAll_cons r0
  obtain ⟨v2, vs2, d2, ds2, p2, q2, rfl, rfl, rfl, h2, r2⟩ := trodAll_cons r1
  obtain ⟨rfl, rfl, rfl⟩ := trodAll_nil r2
  obtain rfl : args = #[v0, v1, v2] := by cases args; simp_all
  obtain ⟨rfl, rfl⟩ := trodVars_none hV
  obtain ⟨a0, len0, cap0, rfl⟩ := okWide_slice Tryd.underlying22 (hval 0 22 v0 rfl rfl)
  have k0 := h0
  have lt0 : ∀ x ∈ p0, x.block < W.heap.size := by obtain ⟨m, hm⟩ := k0; exact DataW.trod_lt m _ _ _ hm
  obtain ⟨l0, rfl, w0⟩ := arg_of h0
  obtain ⟨a1, rfl, rfl, rfl, w1⟩ := open_int Tryd.underlying3 (hval 1 3 v1 rfl rfl) h1
  have hb1 := bounds_i64 w1
  obtain ⟨a2, len2, cap2, rfl⟩ := okWide_slice Tryd.underlying23 (hval 2 23 v2 rfl rfl)
  have k2 := h2
  have lt2 : ∀ x ∈ p2, x.block < W.heap.size := by obtain ⟨m, hm⟩ := k2; exact DataW.trod_lt m _ _ _ hm
  obtain ⟨zs2, rfl, le2, mx2, w2, z2⟩ := ints_of h2
  clear hA0 hval0
  have htab := tabs_of_all hL
  obtain ⟨ps, hsent⟩ := sents_of_laid hL
  have hsz := htab.size
  refine (pointFirst_any W ps hsent htab a0 a2 cap0 cap2 _ _ l0 a1 zs2 rfl rfl w0 (intsArg_of le2 mx2 w2 z2 (intsCap_of h2)) hb1).mono fun e W' ⟨he, bel⟩ => ?_
  subst he
  exact ⟨_, rfl, _, _, _, [], _, [], hW', trodAll_mk1 (shut_bool Tryd.underlying4 _), (trodAll_cons_mk (Below.trod laidOut (by kernel_rfl) (of_decide_eq_true (by kernel_rfl)) k0 bel lt0) (trodAll_cons_mk (shut_int Tryd.underlying3 w1) (trodAll_cons_mk (Below.trod laidOut (by kernel_rfl) (of_decide_eq_true (by kernel_rfl)) k2 bel lt2) trodAll_mk0))), rfl, bel.frame _, fun h => by cases h⟩

theorem row : Rows.PointFirstSaid :=
  OpenClaim.holds_of_wide 4 Tryd.f4 rfl rfl rfl rfl rfl rfl rfl ⟨rfl, rfl, rfl, rfl, rfl⟩ rfl rfl rfl rfl rfl (by kernel_rfl) Tryd.func4 (by kernel_rfl)
    (of_decide_eq_true (by kernel_rfl)) (by unfold Func.isWrapper; first | (rw [if_pos (by decide +kernel)]; kernel_rfl) | (rw [if_neg (by decide +kernel)]; exact ⟨rfl, rfl⟩))
    (fun os started H enc _ => lifted os started H enc)

theorem proved : Rows.PointFirstCardSaid :=
  Claim7.holds_tied_plain_at .later [] _ true _ true
    row (fun _ h => by cases h) (by kernel_rfl) (fun _ h => by cases h) pointFirst_row_tie rfl ⟨rfl, rfl⟩ (by kernel_rfl) rfl
    (fun f fn hf hfn => by
      obtain rfl : f = 4 := Option.some.inj ((show Tryd.prog.funcNamed "cordwood/cordwoodlaw8.PointFirst" = some 4 by kernel_rfl).symm.trans hf) |>.symm
      obtain rfl : fn = Tryd.f4 := (Option.some.inj (Tryd.func4.symm.trans hfn)).symm
      exact ⟨by kernel_rfl, fun j t ht => by
        rw [Tryd.params4] at ht
        have hm : t ∈ [22, 3, 23] := by simpa using Array.mem_of_getElem? ht
        have hall : ([22, 3, 23].all fun u => !Tryd.prog.wantsStandIn u) = true := by kernel_rfl
        exact (show Tryd.prog.wantsStandIn t = false by simpa using List.all_eq_true.1 hall t hm)⟩)
    (by kernel_rfl)
end Go.Proofs.YtfjanenooembkaaDoor.PFirstLaw
