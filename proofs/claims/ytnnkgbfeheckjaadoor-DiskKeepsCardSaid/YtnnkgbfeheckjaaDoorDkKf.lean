/-
  DiskKeeps walked.
-/
import Derived.Test.YtnnkgbfeheckjaaDoorDkKe
namespace Go.Proofs.YtnnkgbfeheckjaaDoor
open Go.RowKit Go.Maps

set_option maxRecDepth 100000 in
set_option maxHeartbeats 4000000 in
theorem keeps_any (w : World) (p : Nat → Addr) (hs : Sents w p) (Aa Ab Ac Az : Option Addr) (ca cb cc cz na nb nc nz : Nat) (a b c : List UInt8) (zs : List Int) (hna : a.length = na) (hnb : b.length = nb) (hnc : c.length = nc) (hnz : zs.length = nz)
    (ha : Arg w Aa ca a) (hb : Arg w Ab cb b) (hc : Arg w Ac cc c) (hz : IntsArg w Az cz zs) :
    Calls Tryd.prog 3 #[.slice Aa na ca, .slice Ab nb cb, .slice Ac nc cc, .slice Az nz cz] w fun e w' => e = .returned (.bool true) ∧ Below w.heap.size w w' := by
  have hsd : SentsD w p := hs.mono fun j hj => by omega
  have HFI := hide (first_any w p hsd)
  have HS := hide hs
  have HSD := hide hsd
  have HA := hide ha
  have HB := hide hb
  have HC := hide hc
  have HZ := hide hz
  have HNA := hide hna
  have HNB := hide hnb
  have HNC := hide hnc
  have HNZ := hide hnz
  clear hs hsd ha hb hc hz hna hnb hnc hnz
  by_cases la : 300 < na
  · go_enter Tryd.func3, Tryd.ntmps3
    go_wp2_with (go_at_call 11; refine HFI.out.mono ?_; rintro e w1 ⟨rfl, hb1⟩; have HB1 := hide hb1; clear hb1)
    go_ret
    exact ⟨rfl, HB1.out⟩
  by_cases lb : 300 < nb
  · go_enter Tryd.func3, Tryd.ntmps3
    go_wp2_with (go_at_call 11; refine HFI.out.mono ?_; rintro e w1 ⟨rfl, hb1⟩; have HB1 := hide hb1; clear hb1)
    go_ret
    exact ⟨rfl, HB1.out⟩
  by_cases lc : 300 < nc
  · go_enter Tryd.func3, Tryd.ntmps3
    go_wp2_with (go_at_call 11; refine HFI.out.mono ?_; rintro e w1 ⟨rfl, hb1⟩; have HB1 := hide hb1; clear hb1)
    go_ret
    exact ⟨rfl, HB1.out⟩
  by_cases lz : 10 < nz
  · go_enter Tryd.func3, Tryd.ntmps3
    go_wp2_with (go_at_call 11; refine HFI.out.mono ?_; rintro e w1 ⟨rfl, hb1⟩; have HB1 := hide hb1; clear hb1)
    go_ret
    exact ⟨rfl, HB1.out⟩
  have HNW := hide (fun W => new_sess 2000 W W (Below.refl _ _) (by omega) (by omega))
  have HST := hide (fun i => Dk.keeps_states i a b c (by have := HNA.out; omega) (by have := HNB.out; omega) (by have := HNC.out; omega))
  go_enter Tryd.func3, Tryd.ntmps3
  go_wp2_with (first
    | (go_at_call 11; refine HFI.out.mono ?_; rintro e w1 ⟨rfl, hb1⟩; have HB1 := hide hb1; have HAA := hide (HA.out.below hb1 (Nat.le_refl _)); have HAB := hide (HB.out.below hb1 (Nat.le_refl _)); have HAC := hide (HC.out.below hb1 (Nat.le_refl _)); have HAZ := hide (HZ.out.below hb1 (Nat.le_refl _)); have HD1 := hide (HSD.out.below hb1); clear hb1)
    | (go_at_call 12; refine (HNW.out w1).mono ?_; rintro e w2 ⟨Bd, rfl, h2, -⟩; obtain ⟨s3, s4, s5, s6, s7, e3, e4, e5, e6, e7, n7, e8⟩ := HST.out w2.heap.size; have H2 := hide h2; have E3 := hide e3; have E4 := hide e4; have E5 := hide e5; have E6 := hide e6; have E7 := hide e7; have N7 := hide n7; have E8 := hide e8; clear h2 e3 e4 e5 e6 e7 n7 e8)
    | (go_at_call 13; refine (H7.out.create p HD1.out (by omega) [103] (by decide)).mono ?_; rintro e w8 ⟨rfl, h8⟩; obtain ⟨s8, s9, s10, e8, e9, e10, e11⟩ := E8.out w7.heap.size (Nat.ne_of_gt (H7.out.disk.ref.1 [102] w2.heap.size N7.out).1); rw [e8] at h8 ⊢; have H8 := hide h8; have E9 := hide e9; have E10 := hide e10; have E11 := hide e11; clear h8 e8 e9 e10 e11; simp only [errR])
    | (go_at_call 13; refine (H2.out.create p HD1.out (by omega) [102] (by decide)).mono ?_; rintro e w3 ⟨rfl, h3⟩; rw [E3.out] at h3 ⊢; have H3 := hide h3; clear h3; simp only [errR])
    | (go_at_call 14; refine (H3.out.syncDir p HD1.out (by omega)).mono ?_; rintro e w4 ⟨rfl, h4⟩; rw [E4.out] at h4 ⊢; have H4 := hide h4; clear h4; simp only [errR])
    | (go_at_call 15; refine (H8.out.append p HD1.out (by omega) [103] (by decide) _ _ _ c (Below.refl _ _) (HAC.out.below H8.out.below (Nat.le_refl _)) HNC.out (by omega) (fun x o e hl => .inl (HAC.out.lt x o e hl))).mono ?_; rintro e w9 ⟨rfl, h9⟩; rw [E9.out] at h9 ⊢; have H9 := hide h9; clear h9; simp only [errR])
    | (go_at_call 15; refine (H6.out.append p HD1.out (by omega) [102] (by decide) _ _ _ b (Below.refl _ _) (HAB.out.below H6.out.below (Nat.le_refl _)) HNB.out (by omega) (fun x o e hl => .inl (HAB.out.lt x o e hl))).mono ?_; rintro e w7 ⟨rfl, h7⟩; rw [E7.out] at h7 ⊢; have H7 := hide h7; clear h7; simp only [errR])
    | (go_at_call 15; refine (H4.out.append p HD1.out (by omega) [102] (by decide) _ _ _ a (Below.refl _ _) (HAA.out.below H4.out.below (Nat.le_refl _)) HNA.out (by omega) (fun x o e hl => .inl (HAA.out.lt x o e hl))).mono ?_; rintro e w5 ⟨rfl, h5⟩; rw [E5.out] at h5 ⊢; have H5 := hide h5; clear h5; simp only [errR])
    | (go_at_call 16; refine (H9.out.sync p HD1.out (by omega) [103] (by decide)).mono ?_; rintro e w10 ⟨rfl, h10⟩; rw [E10.out] at h10 ⊢; have H10 := hide h10; clear h10; simp only [errR])
    | (go_at_call 16; refine (H5.out.sync p HD1.out (by omega) [102] (by decide)).mono ?_; rintro e w6 ⟨rfl, h6⟩; rw [E6.out] at h6 ⊢; have H6 := hide h6; clear h6; simp only [errR])
    | fail)
  refine (H10.out.crash (by omega) Az cz nz zs (Below.refl _ _) (HAZ.out.below H10.out.below (Nat.le_refl _)) HNZ.out (fun x o e hl => ⟨.inl (HAZ.out.lt x o e hl), Nat.lt_of_lt_of_le (HAZ.out.lt x o e hl) H10.out.below.size⟩)).mono ?_
  rintro e w11 ⟨rfl, ys, hy, h11⟩
  obtain ⟨n, hk⟩ := E11.out zs ys hy (order_ref H10.out.disk _ ys hy)
  have H11 := hide h11
  have K := hide hk
  have hlo : na ≤ n := by have := hk.lo; have := HNA.out; omega
  have hhi : n ≤ na + nb := by have := hk.hi; have := HNA.out; have := HNB.out; omega
  have hll : ((a ++ b).take n).length = n := by rw [List.length_take, List.length_append, HNA.out, HNB.out]; omega
  have HLL := hide hll
  clear h11 hk hy hll HST E3 E4 E5 E6 E7 E8 E9 E10 E11 N7
  go_wp2_with (first
    | (go_at_call 18; refine (H11.out.len p HD1.out [102] (by decide)).mono ?_; rintro e w12 ⟨rfl, q, hq⟩; rw [K.out.len, K.out.find]; have h12 := H11.out.drewN q; rw [← hq] at h12; have H12 := hide h12; clear h12 hq; simp only [errR])
    | (go_at_call 19; refine (H12.out.read p HD1.out (by omega) [102] (by decide) 0 n (by omega)).mono ?_; rintro e w13 ⟨v, rfl, ho, hb13⟩; rw [K.out.read] at ho ⊢; obtain ⟨Ar, cr, rfl, hR⟩ := own_n ho HLL.out; have h13 := H12.out.grow hb13; have H13 := hide h13; have HR := hide hR; clear h13 ho hb13 hR; simp only [errR])
    | (at_make; refine wpList_mk rfl (.const (.int .i64 0)) (.const (.int .i64 700)) rfl 0 700 _ _ rfl rfl rfl rfl (by omega) (by omega) ?_; intro w14 ho14 hb14 hs14; have HO14 := hide (show Own w14 w13.heap.size _ [] from ho14); have HB14 := hide hb14; clear ho14 hb14 hs14)
    | (at_builtin; refine wpList_app (w := w14) rfl (.tmp 131) (.tmp 132) rfl w13.heap.size _ [] a rfl HO14.out Aa na ca rfl HNA.out ((HAA.out.below H13.out.below (Nat.le_refl _)).below HB14.out (Nat.le_refl _)).reads (by simp only [List.length_nil]; omega) HB14.out.size ?_; intro v15 w15 ho15 hg15 hv15; have hb15 := HB14.out.grown hg15 HB14.out.size (fun g hg => (HO14.out.lt g hg).1); rw [List.nil_append] at ho15; have HO15 := hide ho15; have HB15 := hide hb15; clear ho15 hg15 hv15 hb15)
    | (at_builtin; refine wpList_app (w := w15) rfl (.tmp 133) (.tmp 134) rfl w13.heap.size _ a b rfl HO15.out Ab nb cb rfl HNB.out ((HAB.out.below H13.out.below (Nat.le_refl _)).below HB15.out (Nat.le_refl _)).reads (by rw [HNA.out]; omega) HB15.out.size ?_; intro v16 w16 ho16 hg16 hv16; have hb16 := HB15.out.grown hg16 HB15.out.size (fun g hg => (HO15.out.lt g hg).1); obtain ⟨A6, c6, rfl, ha6⟩ := own_n (n := na + nb) ho16 (by rw [List.length_append, HNA.out, HNB.out]); have h16 := H13.out.grow hb16; have hR16 := HR.out.below hb16 (Nat.le_refl _); have hle6 : na + nb ≤ c6 := (by have := ha6.le; rw [List.length_append, HNA.out, HNB.out] at this; exact this); have H16 := hide h16; have HR16 := hide hR16; have HA6 := hide ha6; clear ho16 hg16 hv16 hb16 ha6 h16 hR16)
    | fail)
  go_wp2_with (first
    | (go_at_call 20; refine (H16.out.synced p HD1.out [102] (by decide)).mono ?_; rintro e w17 ⟨rfl, q, hq⟩; rw [K.out.syn, K.out.find]; have h17 := H16.out.drewN q; have hr17 := HR16.out.drewN q; have ha17 := HA6.out.drewN q; rw [← hq] at h17 hr17 ha17; have H17 := hide h17; have HR17 := hide hr17; have HA17 := hide ha17; clear h17 hr17 ha17 hq; simp only [errR])
    | (go_at_call 21; refine (sameBytes_any Ar A6 cr c6 n n ((a ++ b).take n) ((a ++ b).take n) w17 HLL.out HLL.out (by omega) (by omega) HR17.out.reads (HA17.out.reads.first n)).mono ?_; rintro e w18 ⟨he, q, hq⟩; rw [decide_eq_true (rfl : (a ++ b).take n = (a ++ b).take n)] at he; subst he; have h18 := H17.out.drewN q; rw [← hq] at h18; have H18 := hide h18; clear h18 hq)
    | fail)
  have HW18 := hide (HB1.out.trans (H18.out.below.mono HB1.out.size))
  refine (H18.out.len p HD1.out [103] (by decide)).mono ?_
  rintro e w19 ⟨rfl, q, hq⟩
  have hw19 := below_drewN HW18.out q
  rw [← hq] at hw19
  have HW19 := hide hw19
  have HS19 := hide (HS.out.below hw19)
  clear hw19 hq HA HB HC HZ HAA HAB HAC HAZ HFI HNW H2 H3 H4 H5 H6 H7 H8 H9 H10 H11 H12 H13 H16 H17 H18 HR HR16 HR17 HA6 HA17 HO14 HO15 HB14 HB15 HW18
  rcases K.out.other with ⟨g1, g2⟩ | ⟨g1, g2⟩
  · rw [g1, g2, HNC.out]
    clear g1 g2 K
    simp only [errR]
    go_wp2_with fail
    go_ret
    exact ⟨rfl, HW19.out⟩
  · rw [g1, g2]
    clear g1 g2 K
    simp only [errR]
    have hne := eql_nil (p 6)
    have HIS := hide (is_sent w19 p HS19.out 6 (by decide) 107)
    clear HS HSD HD1 HS19
    unfold errV at *
    go_wp2_with (go_at_call 22; refine HIS.out.mono ?_; rintro e w20 ⟨he, hb20⟩; rw [decide_eq_true (by decide)] at he; subst he; have HB20 := hide (HW19.out.trans (hb20.mono HW19.out.size)); clear hb20)
    go_ret
    exact ⟨rfl, HB20.out⟩
end Go.Proofs.YtnnkgbfeheckjaaDoor
