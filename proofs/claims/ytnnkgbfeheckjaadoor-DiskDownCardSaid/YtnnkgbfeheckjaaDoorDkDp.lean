/-
  DiskDown walked.
-/
import Derived.Test.YtnnkgbfeheckjaaDoorDkDo
namespace Go.Proofs.YtnnkgbfeheckjaaDoor
open Go.RowKit Go.Maps

set_option maxRecDepth 100000 in
set_option maxHeartbeats 4000000 in
theorem down_all (w : World) (p : Nat → Addr) (hs : Sents w p) (Ab Az : Option Addr) (cb cz nb nz : Nat) (b : List UInt8) (zs : List Int) (hnb : b.length = nb) (hnz : zs.length = nz)
    (hb : Arg w Ab cb b) (hz : IntsArg w Az cz zs) :
    Calls Tryd.prog 10 #[.slice Az nz cz, .slice Ab nb cb] w fun e w' => e = .returned (.bool true) ∧ Below w.heap.size w w' := by
  have hsd : SentsD w p := hs.mono fun j hj => by omega
  have HFI := hide (first_any w p hsd)
  have HS := hide hs
  have HSD := hide hsd
  have HB := hide hb
  have HZ := hide hz
  have HNB := hide hnb
  have HNZ := hide hnz
  clear hs hsd hb hz hnb hnz
  by_cases lz : 12 < nz
  · go_enter Tryd.func10, Tryd.ntmps10
    go_wp2_with (go_at_call 11; refine HFI.out.mono ?_; rintro e w1 ⟨rfl, hb1⟩; have HB1 := hide hb1; clear hb1)
    go_ret
    exact ⟨rfl, HB1.out⟩
  by_cases lb : 50 < nb
  · go_enter Tryd.func10, Tryd.ntmps10
    go_wp2_with (go_at_call 11; refine HFI.out.mono ?_; rintro e w1 ⟨rfl, hb1⟩; have HB1 := hide hb1; clear hb1)
    go_ret
    exact ⟨rfl, HB1.out⟩
  have HNW := hide (fun W => new_sess 500 W W (Below.refl _ _) (by omega) (by omega))
  have HST := hide (fun i => Dk.down_states i b (by have := HNB.out; omega))
  go_enter Tryd.func10, Tryd.ntmps10
  go_wp2_with (first
    | (go_at_call 11; refine HFI.out.mono ?_; rintro e w1 ⟨rfl, hb1⟩; have HB1 := hide hb1; have HAB := hide (HB.out.below hb1 (Nat.le_refl _)); have HAZ := hide (HZ.out.below hb1 (Nat.le_refl _)); have HD1 := hide (HSD.out.below hb1); clear hb1)
    | (go_at_call 12; refine (HNW.out w1).mono ?_; rintro e w2 ⟨Bd, rfl, h2, -⟩; obtain ⟨s3, s4, s5, s6, s8, e3, e4, e5, e6, e8, of, e10⟩ := HST.out w2.heap.size; have H2 := hide h2; have E3 := hide e3; have E4 := hide e4; have E5 := hide e5; have E6 := hide e6; have E8 := hide e8; have HOF := hide of; have E10 := hide e10; clear h2 e3 e4 e5 e6 e8 of e10)
    | (go_at_call 13; refine (H2.out.create p HD1.out (by omega) [97] (by decide)).mono ?_; rintro e w3 ⟨rfl, h3⟩; rw [E3.out] at h3 ⊢; have H3 := hide h3; clear h3; simp only [errR])
    | (go_at_call 15; refine (H3.out.append p HD1.out (by omega) [97] (by decide) _ _ _ b (Below.refl _ _) (HAB.out.below H3.out.below (Nat.le_refl _)) HNB.out (by omega) (fun x o e hl => .inl (HAB.out.lt x o e hl))).mono ?_; rintro e w4 ⟨rfl, h4⟩; rw [E4.out] at h4 ⊢; have H4 := hide h4; clear h4; simp only [errR])
    | (go_at_call 16; refine (H4.out.sync p HD1.out (by omega) [97] (by decide)).mono ?_; rintro e w5 ⟨rfl, h5⟩; rw [E5.out] at h5 ⊢; have H5 := hide h5; clear h5; simp only [errR])
    | (go_at_call 14; refine (H7.out.syncDir p HD1.out (by omega)).mono ?_; rintro e wx ⟨rfl, h8⟩; rw [E8.out] at h8 ⊢; have HX := hide h8; have HSM := hide h8.small; clear h8; simp only [errR])
    | (go_at_call 14; refine (H5.out.syncDir p HD1.out (by omega)).mono ?_; rintro e w6 ⟨rfl, h6⟩; rw [E6.out] at h6 ⊢; have H6 := hide h6; clear h6; simp only [errR])
    | (go_at_call 28; refine (H6.out.arm 1 (by omega)).mono ?_; rintro e w7 ⟨rfl, h7⟩; have H7 := hide h7; clear h7)
    | (go_at_call 22; refine (is_sent wx p (HS.out.below (HB1.out.trans (HX.out.below.mono HB1.out.size))) 9 (by decide) 110).mono ?_; rintro e wy ⟨he, hby⟩; rw [decide_eq_true (by decide)] at he; subst he; have HY := hide (HX.out.grow hby); clear hby)
    | (go_at_call 29; refine HY.out.down.mono ?_; rintro e wz ⟨rfl, rfl⟩; rw [HOF.out.down])
    | (go_at_call 30; refine HY.out.callsC.mono ?_; rintro e wz ⟨rfl, rfl⟩)
    | fail)
  clear HST E3 E4 E5 E6 E8 H2 H3 H4 H5 H6 H7 HX HNW HFI
  go_loopw [9] (fun i wr => ∃ k : Nat, k ≤ nz ∧ i = .int .i64 k ∧ Sess w1 5 Bd s8 wr) (fun i _ => nz - (intOf i).toNat)
  case atStart => exact ⟨0, Nat.zero_le _, rfl, HY.out⟩
  case round =>
    obtain ⟨k, hk, rfl, hr⟩ := hrel
    have HR := hide hr
    clear hr HY
    by_cases hlt : k < nz
    · obtain ⟨bz, oz, rfl, hcell⟩ := (HAZ.out.below HR.out.below (Nat.le_refl _)).get k (by rw [HNZ.out]; exact hlt)
      have hfit := HAZ.out.fit (zs.getD k 0) (by
        have h1 : k < zs.length := by rw [HNZ.out]; exact hlt
        rw [List.getD_eq_getElem?_getD, List.getElem?_eq_getElem h1, Option.getD_some]
        exact List.getElem_mem _)
      generalize zs.getD k 0 = z at *
      obtain ⟨hz1, hz2⟩ := hfit
      have hlt9 : num z 9 < 9 := num_lt z 9 (by omega)
      obtain ⟨N, hN⟩ : ∃ N, num z 9 = N := ⟨_, rfl⟩
      rw [hN] at hlt9
      have HNN := hide hN
      clear hN
      have h9 : N = 0 ∨ N = 1 ∨ N = 2 ∨ N = 3 ∨ N = 4 ∨ N = 5 ∨ N = 6 ∨ N = 7 ∨ N = 8 := by omega
      clear hlt9
      rcases h9 with rfl | rfl | rfl | rfl | rfl | rfl | rfl | rfl | rfl
      · go_wp2_with (first
          | (go_at_call 24; refine (num_at z 9 9 wr (by omega) (by omega) (by omega) hz1 hz2).mono ?_; rintro e wr' ⟨rfl, rfl⟩; rw [HNN.out])
          | (go_at_call 13; refine (HR.out.create p HD1.out (by omega) [98] (by decide)).mono ?_; rintro e wx ⟨rfl, hx⟩; rw [HOF.out.create] at hx ⊢; have HX := hide (hx.back HSM.out); clear hx; simp only [errR])
          | (go_at_call 22; refine (is_sent wx p (HS.out.below (HB1.out.trans (HX.out.below.mono HB1.out.size))) 9 (by decide) 110).mono ?_; rintro e wy ⟨he, hby⟩; rw [decide_eq_true (by decide)] at he; subst he; have HY := hide (HX.out.grow hby); clear hby)
          | (go_at_call 30; refine HY.out.callsC.mono ?_; rintro e wz ⟨rfl, rfl⟩)
          | fail)
        go_roundw
        case rel => exact ⟨k + 1, by omega, by go_num, HY.out⟩
        case measure => simp [intOf]; omega
      · go_wp2_with (first
          | (go_at_call 24; refine (num_at z 9 9 wr (by omega) (by omega) (by omega) hz1 hz2).mono ?_; rintro e wr' ⟨rfl, rfl⟩; rw [HNN.out])
          | (go_at_call 15; refine (HR.out.append p HD1.out (by omega) [97] (by decide) _ _ _ b (Below.refl _ _) (HAB.out.below HR.out.below (Nat.le_refl _)) HNB.out (by omega) (fun x o e hl => .inl (HAB.out.lt x o e hl))).mono ?_; rintro e wx ⟨rfl, hx⟩; rw [HOF.out.append] at hx ⊢; have HX := hide (hx.back HSM.out); clear hx; simp only [errR])
          | (go_at_call 22; refine (is_sent wx p (HS.out.below (HB1.out.trans (HX.out.below.mono HB1.out.size))) 9 (by decide) 110).mono ?_; rintro e wy ⟨he, hby⟩; rw [decide_eq_true (by decide)] at he; subst he; have HY := hide (HX.out.grow hby); clear hby)
          | (go_at_call 30; refine HY.out.callsC.mono ?_; rintro e wz ⟨rfl, rfl⟩)
          | fail)
        go_roundw
        case rel => exact ⟨k + 1, by omega, by go_num, HY.out⟩
        case measure => simp [intOf]; omega
      · go_wp2_with (first
          | (go_at_call 24; refine (num_at z 9 9 wr (by omega) (by omega) (by omega) hz1 hz2).mono ?_; rintro e wr' ⟨rfl, rfl⟩; rw [HNN.out])
          | (go_at_call 32; refine (HR.out.cut p HD1.out (by omega) [97] (by decide) 0).mono ?_; rintro e wx ⟨rfl, hx⟩; rw [HOF.out.cut] at hx ⊢; have HX := hide (hx.back HSM.out); clear hx; simp only [errR])
          | (go_at_call 22; refine (is_sent wx p (HS.out.below (HB1.out.trans (HX.out.below.mono HB1.out.size))) 9 (by decide) 110).mono ?_; rintro e wy ⟨he, hby⟩; rw [decide_eq_true (by decide)] at he; subst he; have HY := hide (HX.out.grow hby); clear hby)
          | (go_at_call 30; refine HY.out.callsC.mono ?_; rintro e wz ⟨rfl, rfl⟩)
          | fail)
        go_roundw
        case rel => exact ⟨k + 1, by omega, by go_num, HY.out⟩
        case measure => simp [intOf]; omega
      · go_wp2_with (first
          | (go_at_call 24; refine (num_at z 9 9 wr (by omega) (by omega) (by omega) hz1 hz2).mono ?_; rintro e wr' ⟨rfl, rfl⟩; rw [HNN.out])
          | (go_at_call 16; refine (HR.out.sync p HD1.out (by omega) [97] (by decide)).mono ?_; rintro e wx ⟨rfl, hx⟩; rw [HOF.out.sync] at hx ⊢; have HX := hide (hx.back HSM.out); clear hx; simp only [errR])
          | (go_at_call 22; refine (is_sent wx p (HS.out.below (HB1.out.trans (HX.out.below.mono HB1.out.size))) 9 (by decide) 110).mono ?_; rintro e wy ⟨he, hby⟩; rw [decide_eq_true (by decide)] at he; subst he; have HY := hide (HX.out.grow hby); clear hby)
          | (go_at_call 30; refine HY.out.callsC.mono ?_; rintro e wz ⟨rfl, rfl⟩)
          | fail)
        go_roundw
        case rel => exact ⟨k + 1, by omega, by go_num, HY.out⟩
        case measure => simp [intOf]; omega
      · go_wp2_with (first
          | (go_at_call 24; refine (num_at z 9 9 wr (by omega) (by omega) (by omega) hz1 hz2).mono ?_; rintro e wr' ⟨rfl, rfl⟩; rw [HNN.out])
          | (go_at_call 26; refine (HR.out.rename p HD1.out (by omega) [97] [99] (by decide) (by decide)).mono ?_; rintro e wx ⟨rfl, hx⟩; rw [HOF.out.rename] at hx ⊢; have HX := hide (hx.back HSM.out); clear hx; simp only [errR])
          | (go_at_call 22; refine (is_sent wx p (HS.out.below (HB1.out.trans (HX.out.below.mono HB1.out.size))) 9 (by decide) 110).mono ?_; rintro e wy ⟨he, hby⟩; rw [decide_eq_true (by decide)] at he; subst he; have HY := hide (HX.out.grow hby); clear hby)
          | (go_at_call 30; refine HY.out.callsC.mono ?_; rintro e wz ⟨rfl, rfl⟩)
          | fail)
        go_roundw
        case rel => exact ⟨k + 1, by omega, by go_num, HY.out⟩
        case measure => simp [intOf]; omega
      · go_wp2_with (first
          | (go_at_call 24; refine (num_at z 9 9 wr (by omega) (by omega) (by omega) hz1 hz2).mono ?_; rintro e wr' ⟨rfl, rfl⟩; rw [HNN.out])
          | (go_at_call 25; refine (HR.out.remove p HD1.out (by omega) [97] (by decide)).mono ?_; rintro e wx ⟨rfl, hx⟩; rw [HOF.out.remove] at hx ⊢; have HX := hide (hx.back HSM.out); clear hx; simp only [errR])
          | (go_at_call 22; refine (is_sent wx p (HS.out.below (HB1.out.trans (HX.out.below.mono HB1.out.size))) 9 (by decide) 110).mono ?_; rintro e wy ⟨he, hby⟩; rw [decide_eq_true (by decide)] at he; subst he; have HY := hide (HX.out.grow hby); clear hby)
          | (go_at_call 30; refine HY.out.callsC.mono ?_; rintro e wz ⟨rfl, rfl⟩)
          | fail)
        go_roundw
        case rel => exact ⟨k + 1, by omega, by go_num, HY.out⟩
        case measure => simp [intOf]; omega
      · go_wp2_with (first
          | (go_at_call 24; refine (num_at z 9 9 wr (by omega) (by omega) (by omega) hz1 hz2).mono ?_; rintro e wr' ⟨rfl, rfl⟩; rw [HNN.out])
          | (go_at_call 19; refine (HR.out.read p HD1.out (by omega) [97] (by decide) 0 0 (by omega)).mono ?_; rintro e wx ⟨v, rfl, -, hx⟩; rw [HOF.out.read]; have HX := hide (HR.out.grow hx); clear hx; simp only [errR])
          | (go_at_call 22; refine (is_sent wx p (HS.out.below (HB1.out.trans (HX.out.below.mono HB1.out.size))) 9 (by decide) 110).mono ?_; rintro e wy ⟨he, hby⟩; rw [decide_eq_true (by decide)] at he; subst he; have HY := hide (HX.out.grow hby); clear hby)
          | (go_at_call 30; refine HY.out.callsC.mono ?_; rintro e wz ⟨rfl, rfl⟩)
          | fail)
        go_roundw
        case rel => exact ⟨k + 1, by omega, by go_num, HY.out⟩
        case measure => simp [intOf]; omega
      · go_wp2_with (first
          | (go_at_call 24; refine (num_at z 9 9 wr (by omega) (by omega) (by omega) hz1 hz2).mono ?_; rintro e wr' ⟨rfl, rfl⟩; rw [HNN.out])
          | (go_at_call 18; refine (HR.out.len p HD1.out [110, 111, 110, 101] (by decide)).mono ?_; rintro e wx ⟨rfl, q, hq⟩; rw [HOF.out.find]; have hx := HR.out.drewN q; rw [← hq] at hx; have HX := hide hx; clear hx hq; simp only [errR])
          | (go_at_call 22; refine (is_sent wx p (HS.out.below (HB1.out.trans (HX.out.below.mono HB1.out.size))) 9 (by decide) 110).mono ?_; rintro e wy ⟨he, hby⟩; rw [decide_eq_true (by decide)] at he; subst he; have HY := hide (HX.out.grow hby); clear hby)
          | (go_at_call 30; refine HY.out.callsC.mono ?_; rintro e wz ⟨rfl, rfl⟩)
          | fail)
        go_roundw
        case rel => exact ⟨k + 1, by omega, by go_num, HY.out⟩
        case measure => simp [intOf]; omega
      · go_wp2_with (first
          | (go_at_call 24; refine (num_at z 9 9 wr (by omega) (by omega) (by omega) hz1 hz2).mono ?_; rintro e wr' ⟨rfl, rfl⟩; rw [HNN.out])
          | (go_at_call 20; refine (HR.out.synced p HD1.out [97] (by decide)).mono ?_; rintro e wx ⟨rfl, q, hq⟩; rw [HOF.out.find]; have hx := HR.out.drewN q; rw [← hq] at hx; have HX := hide hx; clear hx hq; simp only [errR])
          | (go_at_call 22; refine (is_sent wx p (HS.out.below (HB1.out.trans (HX.out.below.mono HB1.out.size))) 9 (by decide) 110).mono ?_; rintro e wy ⟨he, hby⟩; rw [decide_eq_true (by decide)] at he; subst he; have HY := hide (HX.out.grow hby); clear hby)
          | (go_at_call 30; refine HY.out.callsC.mono ?_; rintro e wz ⟨rfl, rfl⟩)
          | fail)
        go_roundw
        case rel => exact ⟨k + 1, by omega, by go_num, HY.out⟩
        case measure => simp [intOf]; omega
    · go_wp2_with (first
        | (go_at_call 17; refine (HR.out.crash (by omega) none 0 0 [] (Below.refl _ _) (intsNone _) rfl (fun x o e => by cases e)).mono ?_; rintro e w10 ⟨rfl, ys, hy, h10⟩; obtain ⟨d1, d2, d3⟩ := E10.out ys hy (order_ref HR.out.disk _ ys hy); rw [HNB.out] at d2; have H10 := hide h10; have D1 := hide d1; have D2 := hide d2; have D3 := hide d3; clear h10 d1 d2 d3 hy)
        | (go_at_call 19; refine (H10.out.read p HD1.out (by omega) [97] (by decide) 0 nb (by omega)).mono ?_; rintro e w11 ⟨v, rfl, ho, hb11⟩; rw [D2.out] at ho ⊢; obtain ⟨Ar, cr, rfl, hR⟩ := own_n ho HNB.out; have h11 := H10.out.grow hb11; have H11 := hide h11; have HRD := hide hR; clear h11 ho hb11 hR; simp only [errR])
        | (go_at_call 21; refine (sameBytes_any Ar Ab cr cb nb nb b b w11 HNB.out HNB.out (by omega) (by omega) HRD.out.reads (HAB.out.below H11.out.below (Nat.le_refl _)).reads).mono ?_; rintro e w12 ⟨he, q, hq⟩; rw [decide_eq_true (rfl : b = b)] at he; subst he; have h12 := H11.out.drewN q; rw [← hq] at h12; have H12 := hide h12; clear h12 hq)
        | (go_at_call 29; refine H12.out.down.mono ?_; rintro e wz ⟨rfl, rfl⟩; rw [D1.out])
        | (go_at_call 13; refine (H12.out.create p HD1.out (by omega) [98] (by decide)).mono ?_; rintro e w13 ⟨rfl, h13⟩; rw [D3.out]; have H13 := hide h13.below; clear h13; simp only [errR])
        | fail)
      go_ret
      exact ⟨rfl, HB1.out.trans (H13.out.mono HB1.out.size)⟩
end Go.Proofs.YtnnkgbfeheckjaaDoor
