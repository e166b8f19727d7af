/-
  DiskCuts walked.
-/
import Derived.Test.YtnnkgbfeheckjaaDoorDkCs
namespace Go.Proofs.YtnnkgbfeheckjaaDoor
open Go.RowKit Go.Maps

set_option maxRecDepth 100000 in
set_option maxHeartbeats 4000000 in
theorem cuts_any (w : World) (p : Nat → Addr) (hs : Sents w p) (Ab Ac Az : Option Addr) (cb cc cz nb nc nz : Nat) (b c : List UInt8) (zs : List Int) (n : Int) (hnb : b.length = nb) (hnc : c.length = nc) (hnz : zs.length = nz)
    (hb : Arg w Ab cb b) (hc : Arg w Ac cc c) (hz : IntsArg w Az cz zs) (hn1 : -9223372036854775808 ≤ n) (hn2 : n ≤ 9223372036854775807) :
    Calls Tryd.prog 7 #[.slice Ab nb cb, .slice Ac nc cc, .int .i64 n, .slice Az nz cz] w fun e w' => e = .returned (.bool true) ∧ Below w.heap.size w w' := by
  have hsd : SentsD w p := hs.mono fun j hj => by omega
  have hcb : nb ≤ cb := by rw [← hnb]; exact hb.le
  have HFI := hide (first_any w p hsd)
  have HS := hide hs
  have HSD := hide hsd
  have HB := hide hb
  have HC := hide hc
  have HZ := hide hz
  have HNB := hide hnb
  have HNC := hide hnc
  have HNZ := hide hnz
  clear hs hsd hb hc hz hnb hnc hnz
  by_cases lb : 200 < nb
  · go_enter Tryd.func7, Tryd.ntmps7
    go_wp2_with (go_at_call 11; refine HFI.out.mono ?_; rintro e w1 ⟨rfl, hb1⟩; have HB1 := hide hb1; clear hb1)
    go_ret
    exact ⟨rfl, HB1.out⟩
  by_cases lc : 200 < nc
  · go_enter Tryd.func7, Tryd.ntmps7
    go_wp2_with (go_at_call 11; refine HFI.out.mono ?_; rintro e w1 ⟨rfl, hb1⟩; have HB1 := hide hb1; clear hb1)
    go_ret
    exact ⟨rfl, HB1.out⟩
  by_cases lz : 5 < nz
  · go_enter Tryd.func7, Tryd.ntmps7
    go_wp2_with (go_at_call 11; refine HFI.out.mono ?_; rintro e w1 ⟨rfl, hb1⟩; have HB1 := hide hb1; clear hb1)
    go_ret
    exact ⟨rfl, HB1.out⟩
  have HNW := hide (fun W => new_sess 1000 W W (Below.refl _ _) (by omega) (by omega))
  have HST := hide (fun i => Dk.cuts_states i b c (by have := HNB.out; omega) (by have := HNC.out; omega))
  have hlt : num n (nb + 3) < nb + 3 := num_lt n (nb + 3) (by omega)
  obtain ⟨N, hN⟩ : ∃ N, num n (nb + 3) = N := ⟨_, rfl⟩
  rw [hN] at hlt
  have HNN := hide hN
  clear hN
  by_cases h0 : N = 0
  · subst h0
    go_enter Tryd.func7, Tryd.ntmps7
    go_wp2_with (first
      | (go_at_call 11; refine HFI.out.mono ?_; rintro e w1 ⟨rfl, hb1⟩; have HB1 := hide hb1; have HAB := hide (HB.out.below hb1 (Nat.le_refl _)); have HAC := hide (HC.out.below hb1 (Nat.le_refl _)); have HAZ := hide (HZ.out.below hb1 (Nat.le_refl _)); have HD1 := hide (HSD.out.below hb1); clear hb1)
      | (go_at_call 12; refine (HNW.out w1).mono ?_; rintro e w2 ⟨Bd, rfl, h2, -⟩; obtain ⟨s3, s4, s5, e3, e4, e5, g1, g2, g3, g4⟩ := HST.out w2.heap.size; have H2 := hide h2; have E3 := hide e3; have E4 := hide e4; have E5 := hide e5; have G1 := hide g1; have G2 := hide g2; have G3 := hide g3; have G4 := hide g4; clear h2 e3 e4 e5 g1 g2 g3 g4)
      | (go_at_call 13; refine (H2.out.create p HD1.out (by omega) [102] (by decide)).mono ?_; rintro e w3 ⟨rfl, h3⟩; rw [E3.out] at h3 ⊢; have H3 := hide h3; clear h3; simp only [errR])
      | (go_at_call 14; refine (H3.out.syncDir p HD1.out (by omega)).mono ?_; rintro e w4 ⟨rfl, h4⟩; rw [E4.out] at h4 ⊢; have H4 := hide h4; clear h4; simp only [errR])
      | (go_at_call 15; refine (H4.out.append p HD1.out (by omega) [102] (by decide) _ _ _ b (Below.refl _ _) (HAB.out.below H4.out.below (Nat.le_refl _)) HNB.out (by omega) (fun x o e hl => .inl (HAB.out.lt x o e hl))).mono ?_; rintro e w5 ⟨rfl, h5⟩; rw [E5.out] at h5 ⊢; have H5 := hide h5; clear h5; simp only [errR])
      | (go_at_call 24; refine (num_at n _ (nb + 3) w5 (by omega) (by omega) (by omega) hn1 hn2).mono ?_; rintro e w5' ⟨rfl, rfl⟩; rw [HNN.out])
      | (go_at_call 32; refine (H5.out.cut p HD1.out (by omega) [102] (by decide) _).mono ?_; rintro e w6 ⟨rfl, h6⟩; rw [G3.out _ (by have := HNB.out; omega)] at h6 ⊢; have H6 := hide h6; clear h6; simp only [errR])
      | (go_at_call 18; refine (H6.out.len p HD1.out [102] (by decide)).mono ?_; rintro e w7 ⟨rfl, q, hq⟩; rw [G2.out, G1.out, HNB.out]; have hw7 := below_drewN (HB1.out.trans (H6.out.below.mono HB1.out.size)) q; rw [← hq] at hw7; have HW7 := hide hw7; have HS7 := hide (HS.out.below hw7); clear hw7 hq; simp only [errR])
      | (go_at_call 22; refine (is_sent w7 p HS7.out 4 (by decide) 105).mono ?_; rintro e w8 ⟨he, hb8⟩; rw [decide_eq_true (by decide)] at he; subst he; have HB8 := hide (HW7.out.trans (hb8.mono HW7.out.size)); clear hb8)
      | fail)
    go_ret
    exact ⟨rfl, HB8.out⟩
  by_cases h1 : nb + 1 < N
  · go_enter Tryd.func7, Tryd.ntmps7
    go_wp2_with (first
      | (go_at_call 11; refine HFI.out.mono ?_; rintro e w1 ⟨rfl, hb1⟩; have HB1 := hide hb1; have HAB := hide (HB.out.below hb1 (Nat.le_refl _)); have HAC := hide (HC.out.below hb1 (Nat.le_refl _)); have HAZ := hide (HZ.out.below hb1 (Nat.le_refl _)); have HD1 := hide (HSD.out.below hb1); clear hb1)
      | (go_at_call 12; refine (HNW.out w1).mono ?_; rintro e w2 ⟨Bd, rfl, h2, -⟩; obtain ⟨s3, s4, s5, e3, e4, e5, g1, g2, g3, g4⟩ := HST.out w2.heap.size; have H2 := hide h2; have E3 := hide e3; have E4 := hide e4; have E5 := hide e5; have G1 := hide g1; have G2 := hide g2; have G3 := hide g3; have G4 := hide g4; clear h2 e3 e4 e5 g1 g2 g3 g4)
      | (go_at_call 13; refine (H2.out.create p HD1.out (by omega) [102] (by decide)).mono ?_; rintro e w3 ⟨rfl, h3⟩; rw [E3.out] at h3 ⊢; have H3 := hide h3; clear h3; simp only [errR])
      | (go_at_call 14; refine (H3.out.syncDir p HD1.out (by omega)).mono ?_; rintro e w4 ⟨rfl, h4⟩; rw [E4.out] at h4 ⊢; have H4 := hide h4; clear h4; simp only [errR])
      | (go_at_call 15; refine (H4.out.append p HD1.out (by omega) [102] (by decide) _ _ _ b (Below.refl _ _) (HAB.out.below H4.out.below (Nat.le_refl _)) HNB.out (by omega) (fun x o e hl => .inl (HAB.out.lt x o e hl))).mono ?_; rintro e w5 ⟨rfl, h5⟩; rw [E5.out] at h5 ⊢; have H5 := hide h5; clear h5; simp only [errR])
      | (go_at_call 24; refine (num_at n _ (nb + 3) w5 (by omega) (by omega) (by omega) hn1 hn2).mono ?_; rintro e w5' ⟨rfl, rfl⟩; rw [HNN.out])
      | (go_at_call 32; refine (H5.out.cut p HD1.out (by omega) [102] (by decide) _).mono ?_; rintro e w6 ⟨rfl, h6⟩; rw [G3.out _ (by have := HNB.out; omega)] at h6 ⊢; have H6 := hide h6; clear h6; simp only [errR])
      | (go_at_call 18; refine (H6.out.len p HD1.out [102] (by decide)).mono ?_; rintro e w7 ⟨rfl, q, hq⟩; rw [G2.out, G1.out, HNB.out]; have hw7 := below_drewN (HB1.out.trans (H6.out.below.mono HB1.out.size)) q; rw [← hq] at hw7; have HW7 := hide hw7; have HS7 := hide (HS.out.below hw7); clear hw7 hq; simp only [errR])
      | (go_at_call 22; refine (is_sent w7 p HS7.out 4 (by decide) 105).mono ?_; rintro e w8 ⟨he, hb8⟩; rw [decide_eq_true (by decide)] at he; subst he; have HB8 := hide (HW7.out.trans (hb8.mono HW7.out.size)); clear hb8)
      | fail)
    go_ret
    exact ⟨rfl, HB8.out⟩
  obtain ⟨k, rfl⟩ : ∃ k, N = k + 1 := ⟨N - 1, by omega⟩
  have hk : k ≤ nb := by omega
  clear h0 h1 hlt
  go_enter Tryd.func7, Tryd.ntmps7
  go_wp2_with (first
    | (go_at_call 15; refine (H7.out.append p HD1.out (by omega) [102] (by decide) _ _ _ c (Below.refl _ _) (HAC.out.below H7.out.below (Nat.le_refl _)) HNC.out (by omega) (fun x o e hl => .inl (HAC.out.lt x o e hl))).mono ?_; rintro e w8 ⟨rfl, h8⟩; rw [K5.out] at h8 ⊢; have H8 := hide h8; clear h8; simp only [errR])
    | (go_at_call 11; refine HFI.out.mono ?_; rintro e w1 ⟨rfl, hb1⟩; have HB1 := hide hb1; have HAB := hide (HB.out.below hb1 (Nat.le_refl _)); have HAC := hide (HC.out.below hb1 (Nat.le_refl _)); have HAZ := hide (HZ.out.below hb1 (Nat.le_refl _)); have HD1 := hide (HSD.out.below hb1); clear hb1)
    | (go_at_call 12; refine (HNW.out w1).mono ?_; rintro e w2 ⟨Bd, rfl, h2, -⟩; obtain ⟨s3, s4, s5, e3, e4, e5, g1, g2, g3, g4⟩ := HST.out w2.heap.size; have H2 := hide h2; have E3 := hide e3; have E4 := hide e4; have E5 := hide e5; have G1 := hide g1; have G2 := hide g2; have G3 := hide g3; have G4 := hide g4; clear h2 e3 e4 e5 g1 g2 g3 g4)
    | (go_at_call 13; refine (H2.out.create p HD1.out (by omega) [102] (by decide)).mono ?_; rintro e w3 ⟨rfl, h3⟩; rw [E3.out] at h3 ⊢; have H3 := hide h3; clear h3; simp only [errR])
    | (go_at_call 14; refine (H3.out.syncDir p HD1.out (by omega)).mono ?_; rintro e w4 ⟨rfl, h4⟩; rw [E4.out] at h4 ⊢; have H4 := hide h4; clear h4; simp only [errR])
    | (go_at_call 15; refine (H4.out.append p HD1.out (by omega) [102] (by decide) _ _ _ b (Below.refl _ _) (HAB.out.below H4.out.below (Nat.le_refl _)) HNB.out (by omega) (fun x o e hl => .inl (HAB.out.lt x o e hl))).mono ?_; rintro e w5 ⟨rfl, h5⟩; rw [E5.out] at h5 ⊢; have H5 := hide h5; clear h5; simp only [errR])
    | (go_at_call 24; refine (num_at n _ (nb + 3) w5 (by omega) (by omega) (by omega) hn1 hn2).mono ?_; rintro e w5' ⟨rfl, rfl⟩; rw [HNN.out])
    | (go_at_call 32; refine (H5.out.cut p HD1.out (by omega) [102] (by decide) _).mono ?_; rintro e w6 ⟨rfl, h6⟩; obtain ⟨s6, s7, k1, k2, k3, k4, k5, k6⟩ := G4.out k (by have := HNB.out; omega); rw [k1 _ (by omega)] at h6 ⊢; have H6 := hide h6; have K2 := hide k2; have K3 := hide k3; have K4 := hide k4; have K5 := hide k5; have K6 := hide k6; clear h6 k1 k2 k3 k4 k5 k6; simp only [errR])
    | (go_at_call 20; refine (H6.out.synced p HD1.out [102] (by decide)).mono ?_; rintro e w7 ⟨rfl, q, hq⟩; rw [K3.out, K2.out]; have h7 := H6.out.drewN q; rw [← hq] at h7; have H7 := hide h7; clear h7 hq; simp only [errR])
    | (go_at_call 31; refine H7.out.usedC.mono ?_; rintro e w7' ⟨rfl, rfl⟩; rw [K4.out])
    | fail)
  refine (H8.out.crash (by omega) Az cz nz zs (Below.refl _ _) (HAZ.out.below H8.out.below (Nat.le_refl _)) HNZ.out (fun x o e hl => ⟨.inl (HAZ.out.lt x o e hl), Nat.lt_of_lt_of_le (HAZ.out.lt x o e hl) H8.out.below.size⟩)).mono ?_
  rintro e w11 ⟨rfl, ys, hy, h11⟩
  obtain ⟨m, hk'⟩ := K6.out zs ys hy (order_ref H8.out.disk _ ys hy)
  have H11 := hide h11
  have K := hide hk'
  have hlo : k ≤ m := hk'.lo
  have hhi : m ≤ k + nc := by have := hk'.hi; have := HNC.out; omega
  have htk : (b.take k).length = k := by rw [List.length_take, HNB.out]; omega
  have hll : ((b.take k ++ c).take m).length = m := by rw [List.length_take, List.length_append, htk, HNC.out]; omega
  have HLL := hide hll
  have HTK := hide htk
  clear h11 hk' hy hll htk HST E3 E4 E5 G1 G2 G3 G4 K2 K3 K4 K5 K6 H2 H3 H4 H5 H6 H7 H8 HNN
  go_wp2_with (first
    | (go_at_call 18; refine (H11.out.len p HD1.out [102] (by decide)).mono ?_; rintro e w12 ⟨rfl, q, hq⟩; rw [K.out.len, K.out.find]; have h12 := H11.out.drewN q; rw [← hq] at h12; have H12 := hide h12; clear h12 hq; simp only [errR])
    | (go_at_call 19; refine (H12.out.read p HD1.out (by omega) [102] (by decide) 0 m (by omega)).mono ?_; rintro e w13 ⟨v, rfl, ho, hb13⟩; rw [K.out.read] at ho ⊢; obtain ⟨Ar, cr, rfl, hR⟩ := own_n ho HLL.out; have h13 := H12.out.grow hb13; have H13 := hide h13; have HR := hide hR; clear h13 ho hb13 hR; simp only [errR])
    | (go_at_call 33; refine (bytes_any Ab cb k (b.take k) w13 HTK.out (by omega) ((HAB.out.below H13.out.below (Nat.le_refl _)).reads.first k)).mono ?_; rintro e w14 ⟨v14, rfl, ho14, hb14⟩; have HO14 := hide ho14; have HB14 := hide hb14; clear ho14 hb14)
    | (at_builtin; refine wpList_app (w := w14) rfl (.tmp 159) (.tmp 160) rfl w13.heap.size _ (b.take k) c rfl HO14.out Ac nc cc rfl HNC.out ((HAC.out.below H13.out.below (Nat.le_refl _)).below HB14.out (Nat.le_refl _)).reads (by rw [HTK.out]; omega) HB14.out.size ?_; intro v16 w16 ho16 hg16 hv16; have hb16 := HB14.out.grown hg16 HB14.out.size (fun g hg => (HO14.out.lt g hg).1); obtain ⟨A6, c6, rfl, ha6⟩ := own_n (n := k + nc) ho16 (by rw [List.length_append, HTK.out, HNC.out]); have h16 := H13.out.grow hb16; have hR16 := HR.out.below hb16 (Nat.le_refl _); have hle6 : k + nc ≤ c6 := (by have := ha6.le; rw [List.length_append, HTK.out, HNC.out] at this; exact this); have H16 := hide h16; have HR16 := hide hR16; have HA6 := hide ha6; clear ho16 hg16 hv16 hb16 ha6 h16 hR16)
    | (go_at_call 21; refine (sameBytes_any Ar A6 cr c6 m m ((b.take k ++ c).take m) ((b.take k ++ c).take m) w16 HLL.out HLL.out (by omega) (by omega) HR16.out.reads (HA6.out.reads.first m)).mono ?_; rintro e w18 ⟨he, q, hq⟩; rw [decide_eq_true (rfl : (b.take k ++ c).take m = (b.take k ++ c).take m)] at he; subst he; have h18 := H16.out.drewN q; rw [← hq] at h18; have H18 := hide h18; clear h18 hq)
    | fail)
  go_ret
  exact ⟨rfl, HB1.out.trans (H18.out.below.mono HB1.out.size)⟩
end Go.Proofs.YtnnkgbfeheckjaaDoor
