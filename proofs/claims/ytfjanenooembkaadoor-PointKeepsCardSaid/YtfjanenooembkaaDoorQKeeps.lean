/-
  PointKeeps walked.
  PointKeeps, proved: behind a crash at any call of a Write what is read is what was there ahead, or what was written.
-/
import Derived.Test.YtfjanenooembkaaDoorQ8
import Derived.Test.YtfjanenooembkaaDoorQ1
import Derived.Test.YtfjanenooembkaaDoorQ8a
namespace Go.Proofs.YtfjanenooembkaaDoor
open Go.RowKit Go.Maps Go.Sort

set_option maxRecDepth 100000 in
set_option maxHeartbeats 4000000 in
theorem pointKeeps_any (w : World) (p : Nat → Addr) (hs : Sents w p) (ht : Tabs w) (Aa Ab Az : Option Addr) (ca cb cz na nb nz : Nat) (a b : List UInt8) (at_ : Int) (zs : List Int) (hna : a.length = na) (hnb : b.length = nb) (hnz : zs.length = nz)
    (ha : Arg w Aa ca a) (hb : Arg w Ab cb b) (hz : IntsArg w Az cz zs) (hat : -9223372036854775808 ≤ at_ ∧ at_ ≤ 9223372036854775807) :
    Calls Tryd.prog 3 #[.slice Aa na ca, .slice Ab nb cb, .int .i64 at_, .slice Az nz cz] w fun e w' => e = .returned (.bool true) ∧ Below w.heap.size w w' := by
  have HFI := hide (ptFirst_any w)
  have HS := hide hs
  have HT := hide ht
  have HW4 : Hid (4 ≤ w.heap.size) := hide ht.size
  have HA := hide ha
  have HB := hide hb
  have HZ := hide hz
  have HNA := hide hna
  have HNB := hide hnb
  have HNZ := hide hnz
  clear hs ht ha hb hz hna hnb hnz
  by_cases la : 200 < na
  · go_enter Tryd.func3, Tryd.ntmps3
    go_wp2_with (first | (go_at_call 9; refine HFI.out.mono ?_; rintro e w1 ⟨rfl, hb1⟩; have HB1 := hide hb1; clear hb1) | fail)
    go_ret
    exact ⟨rfl, HB1.out⟩
  by_cases lb : 200 < nb
  · go_enter Tryd.func3, Tryd.ntmps3
    go_wp2_with (first | (go_at_call 9; refine HFI.out.mono ?_; rintro e w1 ⟨rfl, hb1⟩; have HB1 := hide hb1; clear hb1) | fail)
    go_ret
    exact ⟨rfl, HB1.out⟩
  by_cases lz : 10 < nz
  · go_enter Tryd.func3, Tryd.ntmps3
    go_wp2_with (first | (go_at_call 9; refine HFI.out.mono ?_; rintro e w1 ⟨rfl, hb1⟩; have HB1 := hide hb1; clear hb1) | fail)
    go_ret
    exact ⟨rfl, HB1.out⟩
  have HNW := hide (fun W => new_sessS 2000 W W (Below.refl _ _) (by omega) (by omega))
  have HST := hide (fun i => Dk.point_keeps a b (by have := HNA.out; omega) (by have := HNB.out; omega) i)
  have hltN : num at_ 12 < 12 := num_lt at_ 12 (by omega)
  obtain ⟨N, hN⟩ : ∃ N, num at_ 12 = N := ⟨_, rfl⟩
  rw [hN] at hltN
  have HNN := hide hN
  have HNL := hide hltN
  clear hN hltN
  go_enter Tryd.func3, Tryd.ntmps3
  go_wp2_with (first
    | (go_at_call 9; refine HFI.out.mono ?_; rintro e w1 ⟨rfl, hb1⟩; have HB1 := hide hb1; have HAA := hide (HA.out.below hb1 (Nat.le_refl _)); have HAB := hide (HB.out.below hb1 (Nat.le_refl _)); have HAZ := hide (HZ.out.below hb1 (Nat.le_refl _)); have HS1 : Hid (SentsP w1 p) := hide ((HS.out.below hb1).mono fun j hj => by omega); have HT1 := hide (HT.out.below hb1 (Nat.le_refl _)); have HW1 : Hid (4 ≤ w1.heap.size) := hide (Nat.le_trans HW4.out hb1.size); clear hb1)
    | (go_at_call 10; refine (HNW.out w1).mono ?_; rintro e w2 ⟨Bd, rfl, h2, -⟩; have H2 := hide h2; clear h2)
    | (have _t := H2; go_at_call 11; refine (ptWrite_ok H2.out p HS1.out HT1.out HW1.out (by omega) [112] (by decide) (by decide) (by decide) Aa ca na a (HAA.out.below H2.out.below (Nat.le_refl _)) HNA.out (by omega) (H2.out.clear HAA.out)).mono ?_; rintro e w3 ⟨id1, -, rfl, h3⟩; obtain ⟨sA, e1, k1, st1⟩ := HST.out id1; rw [e1] at h3 ⊢; obtain ⟨S3, h3, -⟩ := h3; have H3 := hide h3; have K1 := hide k1; have ST1 := hide st1; clear h3 e1 k1 st1 H2; simp only [errR])
    | fail)
  clear HST HNW
  refine (ptRead_kept H3.out p HS1.out HT1.out (by omega) [112] (by decide) a na HNA.out (by omega) K1.out).mono ?_
  rintro e w4 ⟨A4, c4, rfl, ha4, hb4⟩
  have HA4 := hide ha4
  have H4 := hide (H3.out.grow hb4)
  clear ha4 hb4 H3 K1
  go_wp2_with (first
    | (go_at_call 13; refine (sameBytes_any A4 Aa c4 ca na na a a w4 HNA.out HNA.out (by omega) (by omega) HA4.out.reads (HAA.out.below H4.out.below (Nat.le_refl _)).reads).mono ?_; rintro e w5 ⟨he, q, hq⟩; rw [decide_eq_true (rfl : a = a)] at he; subst he; have H5 := hide (H4.out.grow (show Below w4.heap.size w4 w5 by rw [hq]; exact below_drewN (Below.refl _ _) q)); clear hq)
    | (go_at_call 14; refine (num_at at_ 12 12 w5 (by omega) (by omega) (by omega) hat.1 hat.2).mono ?_; rintro e w5' ⟨rfl, rfl⟩; rw [HNN.out])
    | (go_at_call 15; refine (H5.out.armS (N : Int) (by have := HNL.out; omega)).mono ?_; rintro e w6 ⟨rfl, h6, -⟩; have H6 := hide h6; clear h6)
    | fail)
  refine (ptWrite_ok H6.out p HS1.out HT1.out HW1.out (by omega) [112] (by decide) (by decide) (by decide) Ab cb nb b (HAB.out.below H6.out.below (Nat.le_refl _)) HNB.out (by omega) (H6.out.clear HAB.out)).mono ?_
  rintro e w7 ⟨id2, hid2, rfl, h7⟩
  obtain ⟨r, sB, e2, hr, st2⟩ := ST1.out (N : Int) (by omega) id2 hid2
  rw [e2] at h7 ⊢
  obtain ⟨S7, h7, -⟩ := h7
  have H7 := hide h7
  have ST2 := hide st2
  clear h7 e2 st2 ST1 hid2 H4 H5 H6 HA4
  rcases hr with ⟨rfl, hdn⟩ | ⟨rfl, hdn⟩
  · have HDN := hide hdn
    clear hdn
    simp only [errR]
    go_wp2_with (first
      | (go_at_call 16; refine H7.out.downS.mono ?_; rintro e wv ⟨rfl, hwv⟩; obtain rfl : w7 = wv := hwv.symm; rw [HDN.out])
      | (go_at_call 17; refine (is_nil 110 w7).mono ?_; rintro e w8 ⟨he, hb8⟩; rw [decide_eq_false (by decide)] at he; subst he; have H8 := hide (H7.out.grow hb8); clear hb8)
      | fail)
    refine (H8.out.crash (by omega) Az cz nz zs (HAZ.out.below H8.out.below (Nat.le_refl _)) HNZ.out (H8.out.clearI HAZ.out)).mono ?_
    rintro e w9 ⟨rfl, ys, ⟨hy, hyr⟩, h9, -⟩
    obtain ⟨x, hx, hrx, kx, st3⟩ := ST2.out zs ys hy hyr
    generalize sB.crash zs ys = sC at *
    have H9 := hide h9
    have KX := hide kx
    have ST3 := hide st3
    clear h9 kx st3 hy hyr ST2 H7 H8
    by_cases hxa : x = a
    · obtain ⟨nx, hnx⟩ : ∃ nx, x.length = nx := ⟨_, rfl⟩
      have hnxl : nx ≤ 200 := by rcases hx with rfl | rfl; (have := HNA.out; omega); (have := HNB.out; omega)
      have HXA := hide hxa
      have HXB := hide (hrx (by first | trivial | rfl))
      have HNX := hide hnx
      clear hx hrx hnx hxa
      go_wp2_with (first
        | (have _t := H21; go_at_call 13; refine (sameBytes_any A21 Aa c21 ca na na a a w21 HNA.out HNA.out (by omega) (by omega) HA21.out.reads (HAA.out.below H21.out.below (Nat.le_refl _)).reads).mono ?_; rintro e w22 ⟨he, q, hq⟩; rw [decide_eq_true (rfl : a = a)] at he; subst he; have H22 := hide (H21.out.grow (show Below w21.heap.size w21 w22 by rw [hq]; exact below_drewN (Below.refl _ _) q)); clear hq)
        | (have _t := H20; go_at_call 12; refine (ptRead_kept H20.out p HS1.out HT1.out (by omega) [112] (by decide) a na HNA.out (by omega) K3.out).mono ?_; rintro e w21 ⟨A21, c21, rfl, ha21, hb21⟩; have HA21 := hide ha21; have H21 := hide (H20.out.grow hb21); clear ha21 hb21 H20)
        | (have _t := H12; go_at_call 11; refine (ptWrite_ok H12.out p HS1.out HT1.out HW1.out (by omega) [112] (by decide) (by decide) (by decide) Aa ca na a (HAA.out.below H12.out.below (Nat.le_refl _)) HNA.out (by omega) (H12.out.clear HAA.out)).mono ?_; rintro e w20 ⟨id3, hid3, rfl, h20⟩; obtain ⟨sD, e3, k3⟩ := ST3.out id3 hid3; rw [e3] at h20 ⊢; obtain ⟨S20, h20, -⟩ := h20; have H20 := hide h20; have K3 := hide k3; clear h20 e3 k3 hid3; simp only [errR])
        | (have _t := H11; go_at_call 13; refine (sameBytes_any A10 Ab c10 cb nx nb x b w11 HNX.out HNB.out (by omega) (by omega) HA11.out.reads (HAB.out.below H11.out.below (Nat.le_refl _)).reads).mono ?_; rintro e w12 ⟨he, q, hq⟩; rw [decide_eq_true HXB.out] at he; subst he; have hbq : Below w11.heap.size w11 w12 := (by rw [hq]; exact below_drewN (Below.refl _ _) q); have H12 := hide (H11.out.grow hbq); have HA12 := hide (HA11.out.below hbq (Nat.le_refl _)); clear hq hbq)
        | (go_at_call 13; refine (sameBytes_any A10 Aa c10 ca nx na x a w10 HNX.out HNA.out (by omega) (by omega) HA10.out.reads (HAA.out.below H10.out.below (Nat.le_refl _)).reads).mono ?_; rintro e w11 ⟨he, q, hq⟩; rw [decide_eq_true HXA.out] at he; subst he; have hbq : Below w10.heap.size w10 w11 := (by rw [hq]; exact below_drewN (Below.refl _ _) q); have H11 := hide (H10.out.grow hbq); have HA11 := hide (HA10.out.below hbq (Nat.le_refl _)); clear hq hbq)
        | (go_at_call 12; refine (ptRead_kept H9.out p HS1.out HT1.out (by omega) [112] (by decide) x nx HNX.out (by omega) KX.out).mono ?_; rintro e w10 ⟨A10, c10, rfl, ha10, hb10⟩; have HA10 := hide ha10; have H10 := hide (H9.out.grow hb10); clear ha10 hb10)
        | fail)
      go_ret
      exact ⟨rfl, HB1.out.trans (H22.out.below.mono HB1.out.size)⟩
    · have hxb : x = b := by rcases hx with h | h; exact absurd h hxa; exact h
      obtain ⟨nx, hnx⟩ : ∃ nx, x.length = nx := ⟨_, rfl⟩
      have hnxl : nx ≤ 200 := by have := HNB.out; rw [hxb] at hnx; omega
      have HXA := hide hxa
      have HXB := hide hxb
      have HNX := hide hnx
      clear hx hrx hnx hxa hxb
      go_wp2_with (first
        | (have _t := H21; go_at_call 13; refine (sameBytes_any A21 Aa c21 ca na na a a w21 HNA.out HNA.out (by omega) (by omega) HA21.out.reads (HAA.out.below H21.out.below (Nat.le_refl _)).reads).mono ?_; rintro e w22 ⟨he, q, hq⟩; rw [decide_eq_true (rfl : a = a)] at he; subst he; have H22 := hide (H21.out.grow (show Below w21.heap.size w21 w22 by rw [hq]; exact below_drewN (Below.refl _ _) q)); clear hq)
        | (have _t := H20; go_at_call 12; refine (ptRead_kept H20.out p HS1.out HT1.out (by omega) [112] (by decide) a na HNA.out (by omega) K3.out).mono ?_; rintro e w21 ⟨A21, c21, rfl, ha21, hb21⟩; have HA21 := hide ha21; have H21 := hide (H20.out.grow hb21); clear ha21 hb21 H20)
        | (have _t := H13; go_at_call 11; refine (ptWrite_ok H13.out p HS1.out HT1.out HW1.out (by omega) [112] (by decide) (by decide) (by decide) Aa ca na a (HAA.out.below H13.out.below (Nat.le_refl _)) HNA.out (by omega) (H13.out.clear HAA.out)).mono ?_; rintro e w20 ⟨id3, hid3, rfl, h20⟩; obtain ⟨sD, e3, k3⟩ := ST3.out id3 hid3; rw [e3] at h20 ⊢; obtain ⟨S20, h20, -⟩ := h20; have H20 := hide h20; have K3 := hide k3; clear h20 e3 k3 hid3; simp only [errR])
        | (have _t := H12; go_at_call 13; refine (sameBytes_any A10 Ab c10 cb nx nb x b w12 HNX.out HNB.out (by omega) (by omega) HA12.out.reads (HAB.out.below H12.out.below (Nat.le_refl _)).reads).mono ?_; rintro e w13 ⟨he, q, hq⟩; rw [decide_eq_true HXB.out] at he; subst he; have hbq : Below w12.heap.size w12 w13 := (by rw [hq]; exact below_drewN (Below.refl _ _) q); have H13 := hide (H12.out.grow hbq); have HA13 := hide (HA12.out.below hbq (Nat.le_refl _)); clear hq hbq)
        | (have _t := H11; go_at_call 13; refine (sameBytes_any A10 Ab c10 cb nx nb x b w11 HNX.out HNB.out (by omega) (by omega) HA11.out.reads (HAB.out.below H11.out.below (Nat.le_refl _)).reads).mono ?_; rintro e w12 ⟨he, q, hq⟩; rw [decide_eq_true HXB.out] at he; subst he; have hbq : Below w11.heap.size w11 w12 := (by rw [hq]; exact below_drewN (Below.refl _ _) q); have H12 := hide (H11.out.grow hbq); have HA12 := hide (HA11.out.below hbq (Nat.le_refl _)); clear hq hbq)
        | (go_at_call 13; refine (sameBytes_any A10 Aa c10 ca nx na x a w10 HNX.out HNA.out (by omega) (by omega) HA10.out.reads (HAA.out.below H10.out.below (Nat.le_refl _)).reads).mono ?_; rintro e w11 ⟨he, q, hq⟩; rw [decide_eq_false HXA.out] at he; subst he; have hbq : Below w10.heap.size w10 w11 := (by rw [hq]; exact below_drewN (Below.refl _ _) q); have H11 := hide (H10.out.grow hbq); have HA11 := hide (HA10.out.below hbq (Nat.le_refl _)); clear hq hbq)
        | (go_at_call 12; refine (ptRead_kept H9.out p HS1.out HT1.out (by omega) [112] (by decide) x nx HNX.out (by omega) KX.out).mono ?_; rintro e w10 ⟨A10, c10, rfl, ha10, hb10⟩; have HA10 := hide ha10; have H10 := hide (H9.out.grow hb10); clear ha10 hb10)
        | fail)
      go_ret
      exact ⟨rfl, HB1.out.trans (H22.out.below.mono HB1.out.size)⟩
  · have HDN := hide hdn
    clear hdn
    have hne := fun W => neq_nilD (p 9) W
    simp only [errR]
    unfold errV at *
    go_wp2_with (first
      | (go_at_call 16; refine H7.out.downS.mono ?_; rintro e wv ⟨rfl, hwv⟩; obtain rfl : w7 = wv := hwv.symm; rw [HDN.out])
      | (go_at_call 17; refine (is_sent w7 p (HS.out.below (HB1.out.trans (H7.out.below.mono HB1.out.size))) 9 (by decide) 110).mono ?_; rintro e w8 ⟨he, hb8⟩; rw [decide_eq_true (by decide)] at he; subst he; have H8 := hide (H7.out.grow hb8); clear hb8)
      | fail)
    refine (H8.out.crash (by omega) Az cz nz zs (HAZ.out.below H8.out.below (Nat.le_refl _)) HNZ.out (H8.out.clearI HAZ.out)).mono ?_
    rintro e w9 ⟨rfl, ys, ⟨hy, hyr⟩, h9, -⟩
    obtain ⟨x, hx, hrx, kx, st3⟩ := ST2.out zs ys hy hyr
    generalize sB.crash zs ys = sC at *
    have H9 := hide h9
    have KX := hide kx
    have ST3 := hide st3
    clear h9 kx st3 hy hyr ST2 H7 H8
    by_cases hxa : x = a
    · obtain ⟨nx, hnx⟩ : ∃ nx, x.length = nx := ⟨_, rfl⟩
      have hnxl : nx ≤ 200 := by rcases hx with rfl | rfl; (have := HNA.out; omega); (have := HNB.out; omega)
      have HXA := hide hxa
      have HNX := hide hnx
      clear hx hrx hnx hxa
      go_wp2_with (first
        | (have _t := H21; go_at_call 13; refine (sameBytes_any A21 Aa c21 ca na na a a w21 HNA.out HNA.out (by omega) (by omega) HA21.out.reads (HAA.out.below H21.out.below (Nat.le_refl _)).reads).mono ?_; rintro e w22 ⟨he, q, hq⟩; rw [decide_eq_true (rfl : a = a)] at he; subst he; have H22 := hide (H21.out.grow (show Below w21.heap.size w21 w22 by rw [hq]; exact below_drewN (Below.refl _ _) q)); clear hq)
        | (have _t := H20; go_at_call 12; refine (ptRead_kept H20.out p HS1.out HT1.out (by omega) [112] (by decide) a na HNA.out (by omega) K3.out).mono ?_; rintro e w21 ⟨A21, c21, rfl, ha21, hb21⟩; have HA21 := hide ha21; have H21 := hide (H20.out.grow hb21); clear ha21 hb21 H20)
        | (have _t := H11; go_at_call 11; refine (ptWrite_ok H11.out p HS1.out HT1.out HW1.out (by omega) [112] (by decide) (by decide) (by decide) Aa ca na a (HAA.out.below H11.out.below (Nat.le_refl _)) HNA.out (by omega) (H11.out.clear HAA.out)).mono ?_; rintro e w20 ⟨id3, hid3, rfl, h20⟩; obtain ⟨sD, e3, k3⟩ := ST3.out id3 hid3; rw [e3] at h20 ⊢; obtain ⟨S20, h20, -⟩ := h20; have H20 := hide h20; have K3 := hide k3; clear h20 e3 k3 hid3; simp only [errR])
        | (go_at_call 13; refine (sameBytes_any A10 Aa c10 ca nx na x a w10 HNX.out HNA.out (by omega) (by omega) HA10.out.reads (HAA.out.below H10.out.below (Nat.le_refl _)).reads).mono ?_; rintro e w11 ⟨he, q, hq⟩; rw [decide_eq_true HXA.out] at he; subst he; have hbq : Below w10.heap.size w10 w11 := (by rw [hq]; exact below_drewN (Below.refl _ _) q); have H11 := hide (H10.out.grow hbq); have HA11 := hide (HA10.out.below hbq (Nat.le_refl _)); clear hq hbq)
        | (go_at_call 12; refine (ptRead_kept H9.out p HS1.out HT1.out (by omega) [112] (by decide) x nx HNX.out (by omega) KX.out).mono ?_; rintro e w10 ⟨A10, c10, rfl, ha10, hb10⟩; have HA10 := hide ha10; have H10 := hide (H9.out.grow hb10); clear ha10 hb10)
        | fail)
      go_ret
      exact ⟨rfl, HB1.out.trans (H22.out.below.mono HB1.out.size)⟩
    · have hxb : x = b := by rcases hx with h | h; exact absurd h hxa; exact h
      obtain ⟨nx, hnx⟩ : ∃ nx, x.length = nx := ⟨_, rfl⟩
      have hnxl : nx ≤ 200 := by have := HNB.out; rw [hxb] at hnx; omega
      have HXA := hide hxa
      have HXB := hide hxb
      have HNX := hide hnx
      clear hx hrx hnx hxa hxb
      go_wp2_with (first
        | (have _t := H21; go_at_call 13; refine (sameBytes_any A21 Aa c21 ca na na a a w21 HNA.out HNA.out (by omega) (by omega) HA21.out.reads (HAA.out.below H21.out.below (Nat.le_refl _)).reads).mono ?_; rintro e w22 ⟨he, q, hq⟩; rw [decide_eq_true (rfl : a = a)] at he; subst he; have H22 := hide (H21.out.grow (show Below w21.heap.size w21 w22 by rw [hq]; exact below_drewN (Below.refl _ _) q)); clear hq)
        | (have _t := H20; go_at_call 12; refine (ptRead_kept H20.out p HS1.out HT1.out (by omega) [112] (by decide) a na HNA.out (by omega) K3.out).mono ?_; rintro e w21 ⟨A21, c21, rfl, ha21, hb21⟩; have HA21 := hide ha21; have H21 := hide (H20.out.grow hb21); clear ha21 hb21 H20)
        | (have _t := H12; go_at_call 11; refine (ptWrite_ok H12.out p HS1.out HT1.out HW1.out (by omega) [112] (by decide) (by decide) (by decide) Aa ca na a (HAA.out.below H12.out.below (Nat.le_refl _)) HNA.out (by omega) (H12.out.clear HAA.out)).mono ?_; rintro e w20 ⟨id3, hid3, rfl, h20⟩; obtain ⟨sD, e3, k3⟩ := ST3.out id3 hid3; rw [e3] at h20 ⊢; obtain ⟨S20, h20, -⟩ := h20; have H20 := hide h20; have K3 := hide k3; clear h20 e3 k3 hid3; simp only [errR])
        | (have _t := H11; go_at_call 13; refine (sameBytes_any A10 Ab c10 cb nx nb x b w11 HNX.out HNB.out (by omega) (by omega) HA11.out.reads (HAB.out.below H11.out.below (Nat.le_refl _)).reads).mono ?_; rintro e w12 ⟨he, q, hq⟩; rw [decide_eq_true HXB.out] at he; subst he; have hbq : Below w11.heap.size w11 w12 := (by rw [hq]; exact below_drewN (Below.refl _ _) q); have H12 := hide (H11.out.grow hbq); have HA12 := hide (HA11.out.below hbq (Nat.le_refl _)); clear hq hbq)
        | (go_at_call 13; refine (sameBytes_any A10 Aa c10 ca nx na x a w10 HNX.out HNA.out (by omega) (by omega) HA10.out.reads (HAA.out.below H10.out.below (Nat.le_refl _)).reads).mono ?_; rintro e w11 ⟨he, q, hq⟩; rw [decide_eq_false HXA.out] at he; subst he; have hbq : Below w10.heap.size w10 w11 := (by rw [hq]; exact below_drewN (Below.refl _ _) q); have H11 := hide (H10.out.grow hbq); have HA11 := hide (HA10.out.below hbq (Nat.le_refl _)); clear hq hbq)
        | (go_at_call 12; refine (ptRead_kept H9.out p HS1.out HT1.out (by omega) [112] (by decide) x nx HNX.out (by omega) KX.out).mono ?_; rintro e w10 ⟨A10, c10, rfl, ha10, hb10⟩; have HA10 := hide ha10; have H10 := hide (H9.out.grow hb10); clear ha10 hb10)
        | fail)
      go_ret
      exact ⟨rfl, HB1.out.trans (H22.out.below.mono HB1.out.size)⟩
end Go.Proofs.YtfjanenooembkaaDoor

namespace Go.Proofs.YtfjanenooembkaaDoor.PKeepsLaw
open Go.Proofs.YtfjanenooembkaaDoor
open Go.RowKit Go.ChangeShapes Go.WideShapes Go.ChangeAt

set_option maxRecDepth 100000 in
theorem lifted (os : Os) (started : os.Started) (H : Type) (enc : TypeId × Value → H) :
    ReturnsInHanded {} Tryd.checked os 3 .any (fun w args => (Rows.pointKeepsSpec.pre enc Tryd.prog Tryd.f3 [] false w args ∧ laidMetH Tryd.prog laidAll w) ∧ sizedMet enc Tryd.prog Tryd.f3 (OpenSpec.ofChange Rows.pointKeepsSpec) false w args)
      (Rows.pointKeepsSpec.post enc Tryd.prog Tryd.f3 false true false false) := by
  refine returnsInHanded_of_change_and (C := Tryd.checked) (X := fun w _ => laidMetH Tryd.prog laidAll w) (fun _ _ _ hh h => h.of_heap hh) own started (by kernel_rfl) Tryd.func3
    (ChangeSpec.witness_shaped (enc := enc) (C := Tryd.checked) (os := os) (X := fun w _ => laidMetH Tryd.prog laidAll w) false (World.doorLaid Tryd.prog 400 os) #[.slice none 0 0, .slice none 0 0, .int .i64 0, .slice none 0 0] 8 rfl (World.shaped_of_RefB (by kernel_rfl) (by kernel_rfl)) (by kernel_rfl) (by kernel_rfl) (by kernel_rfl) (door_met_all os _)) ?_
  intro W base args ds gs before hval0 hW _ _ hL _
  have hval : ∀ (j : Nat) t v, Tryd.f3.params[j]? = some t → args[j]? = some v → Value.okWide Tryd.prog W .any base t v := hval0
  have hW' := hW
  obtain ⟨p, q, hA0, hV, rfl, hfz, hnd⟩ := hW
  have hA : DataW.TrodAll enc Tryd.prog W 0 (fun _ => true) true Tryd.f3.params.toList args.toList ds p := hA0
  rw [Tryd.params3] at hA hval
  obtain ⟨v0, vs0, d0, ds0, p0, q0, hargs, rfl, rfl, h0, r0⟩ := trodAll_cons hA
  obtain ⟨v1, vs1, d1, ds1, p1, q1, rfl, rfl, rfl, h1, r1⟩ := trodAll_cons r0
  obtain ⟨v2, vs2, d2, ds2, p2, q2, rfl, rfl, rfl, h2, r2⟩ := trodAll_cons r1
  obtain ⟨v3, vs3, d3, ds3, p3, q3, rfl, rfl, rfl, h3, r3⟩ := trodAll_cons r2
  obtain ⟨rfl, rfl, rfl⟩ := trodAll_nil r3
  obtain rfl : args = #[v0, v1, v2, v3] := by cases args; simp_all
  obtain ⟨rfl, rfl⟩ := trodVars_none hV
  obtain ⟨a0, len0, cap0, rfl⟩ := okWide_slice Tryd.underlying22 (hval 0 22 v0 rfl rfl)
  have k0 := h0
  have lt0 : ∀ x ∈ p0, x.block < W.heap.size := by obtain ⟨m, hm⟩ := k0; exact DataW.trod_lt m _ _ _ hm
  obtain ⟨l0, rfl, w0⟩ := arg_of h0
  obtain ⟨a1, len1, cap1, rfl⟩ := okWide_slice Tryd.underlying22 (hval 1 22 v1 rfl rfl)
  have k1 := h1
  have lt1 : ∀ x ∈ p1, x.block < W.heap.size := by obtain ⟨m, hm⟩ := k1; exact DataW.trod_lt m _ _ _ hm
  obtain ⟨l1, rfl, w1⟩ := arg_of h1
  obtain ⟨a2, rfl, rfl, rfl, w2⟩ := open_int Tryd.underlying3 (hval 2 3 v2 rfl rfl) h2
  have hb2 := bounds_i64 w2
  obtain ⟨a3, len3, cap3, rfl⟩ := okWide_slice Tryd.underlying23 (hval 3 23 v3 rfl rfl)
  have k3 := h3
  have lt3 : ∀ x ∈ p3, x.block < W.heap.size := by obtain ⟨m, hm⟩ := k3; exact DataW.trod_lt m _ _ _ hm
  obtain ⟨zs3, rfl, le3, mx3, w3, z3⟩ := ints_of h3
  clear hA0 hval0
  have htab := tabs_of_all hL
  obtain ⟨ps, hsent⟩ := sents_of_laid hL
  have hsz := htab.size
  refine (pointKeeps_any W ps hsent htab a0 a1 a3 cap0 cap1 cap3 _ _ _ l0 l1 a2 zs3 rfl rfl rfl w0 w1 (intsArg_of le3 mx3 w3 z3 (intsCap_of h3)) hb2).mono fun e W' ⟨he, bel⟩ => ?_
  subst he
  exact ⟨_, rfl, _, _, _, [], _, [], hW', trodAll_mk1 (shut_bool Tryd.underlying4 _), (trodAll_cons_mk (Below.trod laidOut (by kernel_rfl) (of_decide_eq_true (by kernel_rfl)) k0 bel lt0) (trodAll_cons_mk (Below.trod laidOut (by kernel_rfl) (of_decide_eq_true (by kernel_rfl)) k1 bel lt1) (trodAll_cons_mk (shut_int Tryd.underlying3 w2) (trodAll_cons_mk (Below.trod laidOut (by kernel_rfl) (of_decide_eq_true (by kernel_rfl)) k3 bel lt3) trodAll_mk0)))), rfl, bel.frame _, fun h => by cases h⟩

theorem row : Rows.PointKeepsSaid :=
  OpenClaim.holds_of_wide 3 Tryd.f3 rfl rfl rfl rfl rfl rfl rfl ⟨rfl, rfl, rfl, rfl, rfl⟩ rfl rfl rfl rfl rfl (by kernel_rfl) Tryd.func3 (by kernel_rfl)
    (of_decide_eq_true (by kernel_rfl)) (by unfold Func.isWrapper; first | (rw [if_pos (by decide +kernel)]; kernel_rfl) | (rw [if_neg (by decide +kernel)]; exact ⟨rfl, rfl⟩))
    (fun os started H enc _ => lifted os started H enc)

theorem proved : Rows.PointKeepsCardSaid :=
  Claim7.holds_tied_plain_at .later [] _ true _ true
    row (fun _ h => by cases h) (by kernel_rfl) (fun _ h => by cases h) pointKeeps_row_tie rfl ⟨rfl, rfl⟩ (by kernel_rfl) rfl
    (fun f fn hf hfn => by
      obtain rfl : f = 3 := Option.some.inj ((show Tryd.prog.funcNamed "cordwood/cordwoodlaw8.PointKeeps" = some 3 by kernel_rfl).symm.trans hf) |>.symm
      obtain rfl : fn = Tryd.f3 := (Option.some.inj (Tryd.func3.symm.trans hfn)).symm
      exact ⟨by kernel_rfl, fun j t ht => by
        rw [Tryd.params3] at ht
        have hm : t ∈ [22, 22, 3, 23] := by simpa using Array.mem_of_getElem? ht
        have hall : ([22, 22, 3, 23].all fun u => !Tryd.prog.wantsStandIn u) = true := by kernel_rfl
        exact (show Tryd.prog.wantsStandIn t = false by simpa using List.all_eq_true.1 hall t hm)⟩)
    (by kernel_rfl)
end Go.Proofs.YtfjanenooembkaaDoor.PKeepsLaw
