/-
  PartAnew, walked.
  PartAnew, proved.
-/
import Derived.Test.YtegaahcelogmlaaDoorPaL
import Derived.Test.YtegaahcelogmlaaDoorT2
namespace Go.Proofs.YtegaahcelogmlaaDoor
open Go.RowKit Go.Maps

set_option maxRecDepth 100000 in
set_option maxHeartbeats 4000000 in
theorem partAnew_walk (w : World) (p : Nat → Addr) (hs : Sents w p) (ht : Tabs w) (n0 : Int) (h01 : -9223372036854775808 ≤ n0) (h02 : n0 ≤ 9223372036854775807) (n1 : Int) (h11 : -9223372036854775808 ≤ n1) (h12 : n1 ≤ 9223372036854775807) (A : Option Addr) (c L : Nat) (b : List UInt8) (ha : Arg w A c b) (hL : b.length = L) :
    Calls Tryd.prog 4 #[.slice A L c, .int .i64 n0, .int .i64 n1] w fun x w' => x = .returned (.bool true) ∧ Below w.heap.size w w' := by
  have HF := hide (paFirst_any w ht)
  obtain ⟨e', he'⟩ : ∃ u, num n0 60 = u := ⟨_, rfl⟩
  have hel : e' < 60 := he' ▸ num_lt n0 60 (by omega)
  have HE' := hide he'
  clear he'
  obtain ⟨e, he⟩ : ∃ e, e = e' + 1 := ⟨_, rfl⟩
  have we : IntKind.i64.wrap ((e' : Int) + 1) = (e : Int) := by rw [IntWalk.i64_in _ (by omega)]; omega
  by_cases hle : L ≤ 200 ∧ 0 < L
  · obtain ⟨hle, hl0⟩ := hle
    have hnc : ¬ ((200 : Int) < (L : Int)) := by omega
    have hnz : ((L : Int) == 0) = false := by simp; omega
    have hcl : St.cnt L e ≤ 200 := Nat.le_trans (St.cnt_le L e (by omega)) hle
    have HMK := hide (fun (W : World) (hW : Below w.heap.size w W) => paMake_any [111] o_valid A c L b e W (ha.below hW (Nat.le_refl _)) hL (by omega) (by omega) (by omega) (ht.below hW (Nat.le_refl _)))
    have HSS := hide (fun (W : World) (hW : Below w.heap.size w W) (A' : Option Addr) (c' : Nat) (h' : Reads W A' b) => sameBytes_same A' A c' c L b hL (by omega) h' ((ha.below hW (Nat.le_refl _)).reads))
    have HST := hide (fun (W : World) (S D : Nat → Prop) (sb cb n : Nat) (a : Int) (s : St.S) (h : CaS w S D sb cb 1 a s n W) (hn : n ≤ 700000) (id : Int) (hid : -9223372036854775808 ≤ id ∧ id ≤ 9223372036854775807) (done : Nat) (hd : done ≤ St.cnt L e) (hf : St.Few b id s) (N : St.Nx) (hN : N = St.nxt 1 [111] b e s id done) => paStep_at (E := fun j => j < 19) (nm := [111]) hs ht ha hL (by omega) (by omega) (by decide) (by omega) (by omega) h hn id hid done hd hf N hN)
    have hP0 := fun N hN => St.one_start (b := b) (e := e) o_valid 0 N hN
    have hP1 := fun d done n s h hd hl N hN => St.one_part (nm := [111]) (b := b) (e := e) 0 (d := d) (done := done) (n := n) (s := s) h hd hl (by rw [hL]; omega) N hN
    have hP2 := fun q n s h N hN => St.nil_gone (nm := [111]) (b := b) (e := e) 0 (o := none) (n := n) (s := s) h 1 (by omega) q N hN
    have HBAD := hide (fun (W : World) (hW : Below w.heap.size w W) (cv : Value) (A' : Option Addr) (c' l : Nat) (id dn : Int) (hbad : l ≠ L ∨ dn < 0 ∨ (St.cnt L e : Int) < dn) => paStep_bad hs hW cv [111] L e (St.cnt L e) (U (Crc.sum b)) A' c' l id dn hbad)
    have HS := hide (fun (W : World) (hW : Below w.heap.size w W) => hs.below hW)
    rw [hL] at hP1
    have HP0 := hide hP0
    have HP1 := hide hP1
    have HP2 := hide hP2
    have HTT := hide (show 1 ≤ 1 ∧ 1 ≤ 8 by omega)
    have HLL := hide hL
    clear hP0 hP1 hP2 hs ht ha hL he
    generalize St.cnt L e = m at *
    generalize U (Crc.sum b) = sm at *
    go_enter Tryd.func4, Tryd.ntmps4
    go_upto_region 10 with (first
      | (go_at_call 8; refine HF.out.mono ?_; rintro x w1 ⟨rfl, hb⟩; have HB1 := hide hb; clear hb)
      | (go_at_call 14; refine (num_at n0 60 60 w1 (by omega) (by omega) (by omega) h01 h02).mono ?_; rintro x w1' ⟨rfl, rfl⟩; rw [HE'.out])
      | (go_at_call 15; refine (stNew_any w w1 HB1.out).mono ?_; rintro x w2 ⟨sb, S0, rfl, h, -, -⟩; have H2 := hide h; clear h)
      | (go_at_call 16; refine (caNew_any H2.out 1 HTT.out 1 rfl).mono ?_; rintro x w3 ⟨rfl, h, -⟩; have H3 := hide h; clear h H2; generalize w2.heap.size = cb at *)
      | (go_at_call 9; refine (HMK.out _ H3.out.st.below).mono ?_; rintro x w4 ⟨rfl, hb⟩; have H4 := hide (H3.out.grow hb); clear hb H3)
      | fail)
    obtain ⟨h5, hpb⟩ := H4.out.plan (planC [111] L sm e m)
    have H5 := hide h5
    have HPB := hide hpb
    obtain ⟨c0, c1, c2, c3, c4⟩ := hpb.cells
    clear h5 hpb
    change Code.wp _ _ _ _ (w4.alloc (.cells (planC [111] L sm e m) 26))
    generalize w4.alloc (.cells (planC [111] L sm e m) 26) = w5 at *
    generalize w4.heap.size = Bp at *
    obtain ⟨N, hN⟩ : ∃ N, N = St.nxt 1 [111] b e St.S.new 0 0 := ⟨_, rfl⟩
    obtain ⟨q1, q2, q3, q4, q5⟩ := HP0.out N hN
    obtain ⟨z1, z2, z3, z4⟩ := St.Nx.fine q1 0 0
    have HSTP := hide (HST.out _ _ _ _ _ _ _ _ H5.out (by omega) 0 (by omega) 0 (by omega) ((St.new_nil [111]).few 0) N hN)
    rw [z1, z2, z3, z4, q2, q3, q4] at HSTP
    have HQ := hide q5
    clear hN q1 q2 q3 q4 q5 z1 z2 z3 z4
    unfold errR at HSTP
    obtain ⟨q, hq⟩ : ∃ q, num n1 (m + 1) = q := ⟨_, rfl⟩
    have hql : q < m + 1 := hq ▸ num_lt n1 (m + 1) (by omega)
    have HQ1 := hide hq
    clear hq
    have wm : IntKind.i64.wrap ((m : Int) + 1) = ((m + 1 : Nat) : Int) := by rw [IntWalk.i64_in _ (by omega)]; omega
    go_wp2_with (first
      | (go_at_call 17; refine HSTP.out.mono ?_; rintro x w6 ⟨rfl, a6, S6, D6, h1, h2⟩; have H6 := hide h1; have hb6 := HPB.out.go h2; obtain ⟨d0, d1, d2, d3, d4⟩ := hb6.cells; have HB6 := hide hb6; clear h1 h2 hb6)
      | (go_at_call 14; refine (num_at n1 ((m + 1 : Nat) : Int) (m + 1) w6 rfl (by omega) (by omega) h11 h12).mono ?_; rintro x w1' ⟨rfl, rfl⟩; rw [HQ1.out])
      | fail)
    clear c0 c1 c2 c3 c4 d0 d1 d2 d3 d4 HPB H5 H4 HSTP HP0
    go_loopw [17] (fun dn wr => ∃ (j : Nat) (S D : Nat → Prop) (a k : Int) (s : St.S), j ≤ q ∧ dn = .int .i64 (j : Int) ∧ CaS w S D sb cb 1 a s (2 + 2 * j) wr ∧ Pb S cb Bp (planC [111] L sm e m) wr ∧ St.One [111] b e j k s) (fun dn _ => q - (intOf dn).toNat)
    case atStart => exact ⟨0, _, _, _, _, _, Nat.zero_le _, rfl, H6.out, HB6.out, HQ.out⟩
    case round =>
      obtain ⟨j, S, D, a, k, s, hj, rfl, hc, hb, h1⟩ := hrel
      obtain ⟨c0, c1, c2, c3, c4⟩ := hb.cells
      have HC := hide hc
      have HB := hide hb
      clear hc hb
      by_cases hlt : j < q
      · obtain ⟨N, hN⟩ : ∃ N, N = St.nxt 1 [111] b e s 1 j := ⟨_, rfl⟩
        obtain ⟨q1, q2, q3, q4, -, q5⟩ := HP1.out j j _ s h1 (by omega) (Nat.le_refl _) N hN
        have q5 := q5 (by first | rfl | trivial)
        obtain ⟨z1, z2, z3, z4⟩ := St.Nx.fine q1 1 j
        have HSTP := hide (HST.out _ _ _ _ _ _ _ _ HC.out (by omega) 1 (by omega) j (by omega) h1.few N hN)
        rw [z1, z2, z3, z4, q2, q3, q4] at HSTP
        have HQ := hide q5
        clear hN q1 q2 q3 q4 q5 z1 z2 z3 z4 h1
        unfold errR at HSTP
        have wj : IntKind.i64.wrap ((j : Int) + 1) = (j : Int) + 1 := IntWalk.i64_in _ (by omega)
        go_wp2_with (first
          | (go_at_call 17; refine HSTP.out.mono ?_; rintro x w7 ⟨rfl, a', S', D', h1, h2⟩; have H7 := hide h1; have HB7 := hide (HB.out.go h2); clear h1 h2)
          | fail)
        exact ⟨⟨j + 1, S', D', a', _, N.st, by omega, by push_cast; rfl, H7.out.mono (by omega), HB7.out, HQ.out⟩, by simp [intOf]; omega⟩
      · obtain rfl : j = q := by omega
        obtain ⟨r1, r2⟩ := St.one_abort h1
        obtain ⟨N, hN⟩ : ∃ N, N = St.nxt 1 [111] b e (s.abort 1).2 1 j := ⟨_, rfl⟩
        obtain ⟨q1, q2⟩ := HP2.out j _ _ r2 N hN
        obtain ⟨z1, z2, z3, z4⟩ := St.Nx.gone q1 1 j
        have HSTP := hide (fun (W : World) (S D : Nat → Prop) (a : Int) (h : CaS w S D sb cb 1 a (s.abort 1).2 (2 + 2 * j + 1) W) => HST.out _ _ _ _ _ _ _ _ h (by omega) 1 (by omega) j (by omega) (r2.few 1) N hN)
        simp only [z1, z2, z3, z4] at HSTP
        have HAB := hide (StS.abort HC.out.st p (HS.out w (Below.refl _ _)) (by omega) 1 (by omega))
        rw [r1] at HAB
        clear hN q1 q2 z1 z2 z3 z4 r1 r2 h1
        unfold errR at HSTP HAB
        have hct : ∀ W : World, (Instr.sliceAt 22 (.slice A L c) (some (.int .i64 1)) none none).run Tryd.prog W = .ok (.slice (cutA A c 1) (L - 1) (c - 1)) W := fun W => run_cut_l W A L c 1 (by omega)
        go_upto_region 23 with (first
          | (go_at_call 18; refine HAB.out.mono ?_; rintro x w7 ⟨rfl, S', D', h1, h2⟩; have H7 := hide (HC.out.other h1 h2 (Nat.le_succ _)); have hb7 := HB.out.stGo h2; obtain ⟨d0, d1, d2, d3, d4⟩ := hb7.cells; have HB7 := hide hb7; clear h1 h2 hb7)
          | (go_at_call 17; refine (HSTP.out _ _ _ _ H7.out).mono ?_; rintro x w8 ⟨rfl, a', S', D', h1, h2⟩; have H8 := hide h1; have hb8 := HB7.out.go h2; obtain ⟨e0, e1, e2, e3, e4⟩ := hb8.cells; have HB8 := hide hb8; clear h1 h2 hb8)
          | fail)
        go_region_with (go_at_call 17; refine (HBAD.out _ H8.out.st.below.drew _ _ _ (L - 1) 1 (j : Int) (.inl (by omega))).mono ?_; rintro x w9 ⟨rfl, hb⟩; have hb9 := (Below.refl w8.heap.size w8).drew.trans (hb.mono (by simp)); have H9 := hide (H8.out.grow hb9); have hp9 := HB8.out.below hb9; obtain ⟨f0, f1, f2, f3, f4⟩ := hp9.cells; have HP9 := hide hp9; clear hb hb9 hp9)
        have wm1 : IntKind.i64.wrap ((j : Int) + 1) = (j : Int) + 1 := IntWalk.i64_in _ (by omega)
        have HI4 := hide (fun (W : World) (hW : Below w.heap.size w W) => is_sent W p (HS.out W hW) 4 (by omega) 105)
        unfold errR errV at *
        go_wp2_with (first
          | (have := HI2.out; clear this; go_at_call 11; refine (HI4.out _ HI2.out).mono ?_; rintro x w14 ⟨rfl, hb⟩; have HI3 := hide (HI2.out.trans (hb.mono HI2.out.size)); clear hb)
          | (have := HI1.out; clear this; go_at_call 11; refine (HI4.out _ HI1.out).mono ?_; rintro x w13 ⟨rfl, hb⟩; have HI2 := hide (HI1.out.trans (hb.mono HI1.out.size)); clear hb)
          | (have := H11.out; clear this; go_at_call 11; refine (HI4.out _ H11.out).mono ?_; rintro x w12 ⟨rfl, hb⟩; have HI1 := hide (H11.out.trans (hb.mono H11.out.size)); clear hb)
          | (have := H10.out; clear this; go_at_call 17; refine (HBAD.out _ H10.out _ _ _ L 1 (-1) (.inr (.inl (by omega)))).mono ?_; rintro x w11 ⟨rfl, hb⟩; have H11 := hide (H10.out.trans (hb.mono H10.out.size)); clear hb)
          | (go_at_call 17; refine (HBAD.out _ H9.out.st.below _ _ _ L 1 ((m + 1 : Nat) : Int) (.inr (.inr (by omega)))).mono ?_; rintro x w10 ⟨rfl, hb⟩; have hp10 := HP9.out.below hb; obtain ⟨g0, g1, g2, g3, g4⟩ := hp10.cells; have H10 := hide (H9.out.st.below.trans (hb.mono H9.out.st.below.size)); clear hb hp10)
          | fail)
        go_ret
        exact ⟨rfl, HI3.out⟩
  · have hF2 := HF
    clear hs ht ha hL HF
    have HF := hF2
    clear hF2
    by_cases h2 : 200 < L
    · have hnc : (200 : Int) < (L : Int) := by omega
      clear hle
      go_enter Tryd.func4, Tryd.ntmps4
      go_wp2_with (first
        | (go_at_call 8; refine HF.out.mono ?_; rintro x w1 ⟨rfl, hb⟩; have HB1 := hide hb; clear hb)
        | (go_at_call 14; refine (num_at n0 60 60 w1 (by omega) (by omega) (by omega) h01 h02).mono ?_; rintro x w1' ⟨rfl, rfl⟩; rw [HE'.out])
        | fail)
      go_ret
      exact ⟨rfl, HB1.out⟩
    · obtain rfl : L = 0 := by omega
      clear hle
      go_enter Tryd.func4, Tryd.ntmps4
      go_wp2_with (first
        | (go_at_call 8; refine HF.out.mono ?_; rintro x w1 ⟨rfl, hb⟩; have HB1 := hide hb; clear hb)
        | (go_at_call 14; refine (num_at n0 60 60 w1 (by omega) (by omega) (by omega) h01 h02).mono ?_; rintro x w1' ⟨rfl, rfl⟩; rw [HE'.out])
        | fail)
      go_ret
      exact ⟨rfl, HB1.out⟩
end Go.Proofs.YtegaahcelogmlaaDoor

namespace Go.Proofs.YtegaahcelogmlaaDoor.PartAnewLaw
open Go.Proofs.YtegaahcelogmlaaDoor
open Go.RowKit Go.ChangeShapes Go.WideShapes Go.ChangeAt

set_option maxRecDepth 100000 in
set_option maxHeartbeats 8000000 in
theorem lifted (os : Os) (started : os.Started) (H : Type) (enc : TypeId × Value → H) :
    ReturnsInHanded {} Tryd.checked os 4 .any (fun w args => (Rows.partAnewSpec.pre enc Tryd.prog Tryd.f4 [] false w args ∧ laidMetH Tryd.prog laidN w) ∧ sizedMet enc Tryd.prog Tryd.f4 (OpenSpec.ofChange Rows.partAnewSpec) false w args)
      (Rows.partAnewSpec.post enc Tryd.prog Tryd.f4 false true false false) := by
  refine returnsInHanded_both (C := Tryd.checked) (X := fun w _ => laidMetH Tryd.prog laidN w) (fun _ _ _ hh h => h.of_heap hh) own started (by kernel_rfl) Tryd.func4
    (ChangeSpec.witness_shaped (enc := enc) (C := Tryd.checked) (os := os) (X := fun w _ => laidMetH Tryd.prog laidN w) false (World.laidAll Tryd.prog os laidN) #[.slice none 0 0, .int .i64 0, .int .i64 0] 8 (World.laidAll_os _ _ _) (World.shaped_of_ZipB (by kernel_rfl) (by kernel_rfl)) (by kernel_rfl) (by kernel_rfl) (by kernel_rfl) (by rw [MakeChecks.laidMetH_plain _ _ _ (by kernel_rfl)]; exact laidMet_laidAll _ (by kernel_rfl) (by kernel_rfl))) ?_
  intro W base args ds gs before hval0 hW hL _
  have hval : ∀ (j : Nat) t v, Tryd.f4.params[j]? = some t → args[j]? = some v → Value.okWide Tryd.prog W .any base t v := hval0
  have hW' := hW
  obtain ⟨p, q, hA0, hV, rfl, hfz, hnd⟩ := hW
  have hA : DataW.TrodAll enc Tryd.prog W 0 (fun _ => true) true Tryd.f4.params.toList args.toList ds p := hA0
  rw [Tryd.params4] at hA hval
  obtain ⟨v0, vs0, d0, ds0, p0, q0, hargs, rfl, rfl, h0, r0⟩ := trodAll_cons hA
  obtain ⟨v1, vs1, d1, ds1, p1, q1, rfl, rfl, rfl, h1, r1⟩ := trodAll_cons r0
  obtain ⟨v2, vs2, d2, ds2, p2, q2, rfl, rfl, rfl, h2, r2⟩ := trodAll_cons r1
  obtain ⟨rfl, rfl, rfl⟩ := trodAll_nil r2
  obtain rfl : args = #[v0, v1, v2] := by cases args; simp_all
  obtain ⟨rfl, rfl⟩ := trodVars_none hV
  obtain ⟨a0, len0, cap0, rfl⟩ := okWide_slice Tryd.underlying22 (hval 0 22 v0 rfl rfl)
  have k0 := h0
  have lt0 : ∀ x ∈ p0, x.block < W.heap.size := by obtain ⟨m, hm⟩ := k0; exact DataW.trod_lt m _ _ _ hm
  obtain ⟨l0, rfl, w0⟩ := arg_of h0
  obtain ⟨a1, rfl, rfl, rfl, w1⟩ := open_int Tryd.underlying3 (hval 1 3 v1 rfl rfl) h1
  have hb1 := bounds_i64 w1
  obtain ⟨a2, rfl, rfl, rfl, w2⟩ := open_int Tryd.underlying3 (hval 2 3 v2 rfl rfl) h2
  have hb2 := bounds_i64 w2
  clear hA0 hval0
  have htab := tabs_of_n hL
  obtain ⟨ps, hsent⟩ := sents_of_n hL
  refine (partAnew_walk W ps hsent htab a1 hb1.1 hb1.2 a2 hb2.1 hb2.2 a0 cap0 _ l0 w0 rfl).mono fun e W' ⟨he, bel⟩ => ?_
  subst he
  exact ⟨_, rfl, _, _, _, [], _, [], hW', trodAll_mk1 (shut_bool Tryd.underlying4 _), (trodAll_cons_mk (Below.trod laidOut (by kernel_rfl) (of_decide_eq_true (by kernel_rfl)) k0 bel lt0) (trodAll_cons_mk (shut_int Tryd.underlying3 w1) (trodAll_cons_mk (shut_int Tryd.underlying3 w2) trodAll_mk0))), rfl, bel.frame _, fun h => by cases h⟩

theorem row : Rows.PartAnewSaid :=
  OpenClaim.holds_of_wide 4 Tryd.f4 rfl rfl rfl rfl rfl rfl rfl ⟨rfl, rfl, rfl, rfl, rfl⟩ rfl rfl rfl rfl rfl (by kernel_rfl) Tryd.func4 (by kernel_rfl)
    (of_decide_eq_true (by kernel_rfl)) (by unfold Func.isWrapper; first | (rw [if_pos (by decide +kernel)]; kernel_rfl) | (rw [if_neg (by decide +kernel)]; exact ⟨rfl, rfl⟩))
    (fun os started H enc _ => lifted os started H enc)

theorem proved : Rows.PartAnewCardSaid :=
  Claim7.holds_tied_plain_at .later [] _ true _ true
    row (fun _ h => by cases h) (by kernel_rfl) (fun _ h => by cases h) partAnew_row_tie rfl ⟨rfl, rfl⟩ (by kernel_rfl) rfl
    (fun f fn hf hfn => by
      obtain rfl : f = 4 := Option.some.inj ((show Tryd.prog.funcNamed "cordwood/cordwoodlaw13.PartAnew" = some 4 by kernel_rfl).symm.trans hf) |>.symm
      obtain rfl : fn = Tryd.f4 := (Option.some.inj (Tryd.func4.symm.trans hfn)).symm
      exact ⟨by kernel_rfl, fun j t ht => by
        rw [Tryd.params4] at ht
        have hm : t ∈ [22, 3, 3] := by simpa using Array.mem_of_getElem? ht
        have hall : ([22, 3, 3].all fun u => !Tryd.prog.wantsStandIn u) = true := by kernel_rfl
        exact (show Tryd.prog.wantsStandIn t = false by simpa using List.all_eq_true.1 hall t hm)⟩)
    (by kernel_rfl)
end Go.Proofs.YtegaahcelogmlaaDoor.PartAnewLaw
