/-
  PartLost, walked.
-/
import Derived.Test.YtegaahcelogmlaaDoorW1
namespace Go.Proofs.YtegaahcelogmlaaDoor
open Go.RowKit Go.Maps

theorem o_valid : Dk.valid [111] = true := by decide

set_option maxRecDepth 100000 in
set_option maxHeartbeats 4000000 in
theorem partLost_walk (w : World) (p : Nat → Addr) (hs : Sents w p) (ht : Tabs w) (n0 n1 : Int) (h01 : -9223372036854775808 ≤ n0) (h02 : n0 ≤ 9223372036854775807) (h11 : -9223372036854775808 ≤ n1) (h12 : n1 ≤ 9223372036854775807) (A : Option Addr) (c L : Nat) (b : List UInt8) (ha : Arg w A c b) (hL : b.length = L) :
    Calls Tryd.prog 6 #[.slice A L c, .int .i64 n0, .int .i64 n1] w fun x w' => x = .returned (.bool true) ∧ Below w.heap.size w w' := by
  have HF := hide (paFirst_any w ht)
  have HS := hide (fun (W : World) (hW : Below w.heap.size w W) => hs.below hW)
  obtain ⟨e', he'⟩ : ∃ u, num n0 50 = u := ⟨_, rfl⟩
  obtain ⟨t', ht'⟩ : ∃ u, num n1 4 = u := ⟨_, rfl⟩
  have hel : e' < 50 := he' ▸ num_lt n0 50 (by omega)
  have htl : t' < 4 := ht' ▸ num_lt n1 4 (by omega)
  have HE' := hide he'
  have HT' := hide ht'
  clear he' ht'
  obtain ⟨e, he⟩ : ∃ e, e = e' + 1 := ⟨_, rfl⟩
  obtain ⟨t, htt⟩ : ∃ t, t = t' + 1 := ⟨_, rfl⟩
  have we : IntKind.i64.wrap ((e' : Int) + 1) = (e : Int) := by rw [IntWalk.i64_in _ (by omega)]; omega
  have wt : IntKind.i64.wrap ((t' : Int) + 1) = (t : Int) := by rw [IntWalk.i64_in _ (by omega)]; omega
  have hAl : ∀ x o, A = some ⟨x, o, none⟩ → b ≠ [] → x < w.heap.size := fun x o e1 hb => by
    rcases ha.reads with h1 | ⟨g, off, e2, hlt, -⟩
    · exact absurd h1 hb
    · rw [e2] at e1; injection e1 with e1; injection e1 with e1 _ _; subst e1; exact hlt
  by_cases hle : L ≤ 100
  · have hnc : ¬ ((100 : Int) < (L : Int)) := by omega
    have hcl : St.cnt L e ≤ 100 := Nat.le_trans (St.cnt_le L e (by omega)) hle
    have HMK := hide (fun (W : World) (hW : Below w.heap.size w W) => paMake_any [111] o_valid A c L b e W (ha.below hW (Nat.le_refl _)) hL (by omega) (by omega) (by omega) (ht.below hW (Nat.le_refl _)))
    have HSS := hide (fun (W : World) (hW : Below w.heap.size w W) (A' : Option Addr) (c' : Nat) (h' : Reads W A' b) => sameBytes_same A' A c' c L b hL (by omega) h' ((ha.below hW (Nat.le_refl _)).reads))
    have HST := hide (fun (W : World) (S D : Nat → Prop) (sb cb n : Nat) (a : Int) (s : St.S) (h : CaS w S D sb cb t a s n W) (hn : n ≤ 700000) (id : Int) (hid : -9223372036854775808 ≤ id ∧ id ≤ 9223372036854775807) (done : Nat) (hd : done ≤ St.cnt L e) (hf : St.Few b id s) (N : St.Nx) (hN : N = St.nxt t [111] b e s id done) => paStep_at (E := fun j => j < 19) (nm := [111]) hs ht ha hL (by omega) (by omega) (by decide) (by omega) (by omega) h hn id hid done hd hf N hN)
    have hP0 := fun N hN => St.one_start (b := b) (e := e) o_valid t' N hN
    have hP1 := fun d n s h hd N hN => St.one_part (nm := [111]) (b := b) (e := e) t' (d := d) (done := d) (n := n) (s := s) h hd (Nat.le_refl _) (by rw [hL]; omega) N hN
    have hP2 := fun n s h N hN => St.one_lost (nm := [111]) (b := b) (e := e) (by omega) t' (n := n) (s := s) h (by rw [hL]; omega) N hN
    have hP3 := fun o n s h N hN => St.nil_gone (nm := [111]) (b := b) (e := e) t' (o := o) (n := n) (s := s) h 1 (by omega) (St.cnt L e) N hN
    rw [hL] at hP1 hP2
    rw [← htt] at hP0 hP1 hP2 hP3
    have HP0 := hide hP0
    have HP1 := hide hP1
    have HP2 := hide hP2
    have HP3 := hide hP3
    have HTT := hide (show 1 ≤ t ∧ t ≤ 8 by omega)
    have HT4 := hide (show t ≤ 4 by omega)
    have HLL := hide hL
    clear hP0 hP1 hP2 hP3 hs ht ha hL he htt
    generalize St.cnt L e = m at *
    generalize U (Crc.sum b) = sm at *
    go_enter Tryd.func6, Tryd.ntmps6
    go_upto_region 11 with (first
      | (go_at_call 8; refine HF.out.mono ?_; rintro x w1 ⟨rfl, hb⟩; have HB1 := hide hb; clear hb)
      | (have := HB2.out; clear this; go_at_call 14; refine (num_at n1 4 4 w1 (by omega) (by omega) (by omega) h11 h12).mono ?_; rintro x w1' ⟨rfl, rfl⟩; rw [HT'.out])
      | (go_at_call 14; refine (num_at n0 50 50 w1 (by omega) (by omega) (by omega) h01 h02).mono ?_; rintro x w1' ⟨rfl, rfl⟩; rw [HE'.out]; have HB2 := HB1)
      | (go_at_call 15; refine (stNew_any w w1 HB1.out).mono ?_; rintro x w2 ⟨sb, S0, rfl, h, -, -⟩; have H2 := hide h; clear h)
      | (go_at_call 16; refine (caNew_any H2.out t HTT.out (t : Int) rfl).mono ?_; rintro x w3 ⟨rfl, h, -⟩; have H3 := hide h; clear h H2; generalize w2.heap.size = cb at *)
      | (go_at_call 9; refine (HMK.out _ H3.out.st.below).mono ?_; rintro x w4 ⟨rfl, hb⟩; have H4 := hide (H3.out.grow hb); clear hb H3)
      | fail)
    obtain ⟨h5, hpb⟩ := H4.out.plan (planC [111] L sm e m)
    have H5 := hide h5
    have HPB := hide hpb
    clear h5 hpb
    change Code.wp _ _ _ _ (w4.alloc (.cells (planC [111] L sm e m) 26))
    generalize w4.alloc (.cells (planC [111] L sm e m) 26) = w5 at *
    generalize w4.heap.size = Bp at *
    go_wp2_with fail
    go_loopw [13, 14, 15] (fun id dn i wr => ∃ (j : Nat) (S D : Nat → Prop) (a : Int) (s : St.S), j ≤ m + 1 ∧ id = .int .i64 (if j = 0 then 0 else 1) ∧ dn = .int .i64 ((j - 1 : Nat) : Int) ∧ i = .int .i64 (j : Int) ∧ CaS w S D sb cb t a s (8 * j) wr ∧ Pb S cb Bp (planC [111] L sm e m) wr ∧ ((j = 0 ∧ s = St.S.new) ∨ (0 < j ∧ St.One [111] b e (j - 1) j s))) (fun _ _ i _ => m + 1 - (intOf i).toNat)
    case atStart => exact ⟨0, _, _, _, _, Nat.zero_le _, rfl, rfl, rfl, H5.out, HPB.out, .inl ⟨rfl, rfl⟩⟩
    case round =>
      obtain ⟨j, S, D, a, s, hj, rfl, rfl, rfl, hc, hb, hst⟩ := hrel
      obtain ⟨c0, c1, c2, c3, c4⟩ := hb.cells
      have HC := hide hc
      have HB := hide hb
      clear hc hb
      rcases hst with ⟨rfl, rfl⟩ | ⟨h0, h1⟩
      · obtain ⟨N, hN⟩ : ∃ N, N = St.nxt t [111] b e St.S.new 0 0 := ⟨_, rfl⟩
        obtain ⟨q1, q2, q3, q4, q5⟩ := HP0.out N hN
        obtain ⟨z1, z2, z3, z4⟩ := St.Nx.fine q1 0 0
        have HSTP := hide (HST.out _ _ _ _ _ _ _ _ HC.out (by omega) 0 (by omega) 0 (by omega) ((St.new_nil [111]).few 0) N hN)
        rw [z1, z2, z3, z4, q2, q3, q4] at HSTP
        have HQ := hide q5
        clear hN q1 q2 q3 q4 q5 z1 z2 z3 z4
        rw [if_pos rfl]
        unfold errR at HSTP
        have hjm : (0 : Int) ≤ (m : Int) := by omega
        go_wp2_with (first
          | (go_at_call 17; refine HSTP.out.mono ?_; rintro x w6 ⟨rfl, a', S', D', h1, h2⟩; have H6 := hide h1; have HB6 := hide (HB.out.go h2); clear h1 h2)
          | fail)
        exact ⟨⟨1, S', D', a', N.st, by omega, rfl, rfl, by simp, H6.out.mono (by have := HT4.out; omega), HB6.out, .inr ⟨by omega, HQ.out⟩⟩, by simp [intOf]⟩
      · obtain ⟨d, rfl⟩ : ∃ d, j = d + 1 := ⟨j - 1, by omega⟩
        rw [if_neg (by omega)]
        rw [show d + 1 - 1 = d from rfl] at h1 ⊢
        by_cases hdm : d < m
        · obtain ⟨N, hN⟩ : ∃ N, N = St.nxt t [111] b e s 1 d := ⟨_, rfl⟩
          obtain ⟨q1, q2, q3, q4, -, q5⟩ := HP1.out d _ s h1 hdm N hN
          obtain ⟨z1, z2, z3, z4⟩ := St.Nx.fine q1 1 d
          have HSTP := hide (HST.out _ _ _ _ _ _ _ _ HC.out (by omega) 1 (by omega) d (by omega) h1.few N hN)
          rw [z1, z2, z3, z4, q2, q3, q4] at HSTP
          have HQ := hide (q5 (by first | rfl | trivial))
          clear hN q1 q2 q3 q4 q5 z1 z2 z3 z4 h1 h0
          unfold errR at HSTP
          have hjm : ((d : Int) + 1) ≤ (m : Int) := by omega
          have hwd : IntKind.i64.wrap ((d : Int) + 1 + 1) = (d : Int) + 1 + 1 := IntWalk.i64_in _ (by omega)
          go_wp2_with (first
            | (go_at_call 17; refine HSTP.out.mono ?_; rintro x w6 ⟨rfl, a', S', D', h1, h2⟩; have H6 := hide h1; have HB6 := hide (HB.out.go h2); clear h1 h2)
            | fail)
          exact ⟨⟨d + 1 + 1, S', D', a', N.st, by omega, rfl, rfl, by push_cast; rfl, H6.out.mono (by have := HT4.out; omega), HB6.out, .inr ⟨by omega, HQ.out⟩⟩, by simp [intOf]; omega⟩
        · obtain rfl : d = m := by omega
          have e1 : s.scripted [2] = St.lost s 1 := by simp [St.S.scripted, St.lost, h1.script]
          obtain ⟨N, hN⟩ : ∃ N, N = St.nxt t [111] b e (St.lost s 1) 1 d := ⟨_, rfl⟩
          obtain ⟨q1, q2, q3, q4, k, q5⟩ := HP2.out _ s h1 N hN
          have HE1 := hide e1
          have hfew : St.Few b 1 (St.lost s 1) := h1.few
          have HSL := hide (show s.script.length + 1 ≤ 1000000 by rw [h1.script]; simp)
          have HSTP := hide (fun (W : World) (S D : Nat → Prop) (a : Int) (h : CaS w S D sb cb t a (St.lost s 1) (8 * (d + 1) + 1) W) => HST.out _ _ _ _ _ _ _ _ h (by omega) 1 (by omega) d (Nat.le_refl _) hfew N hN)
          have hob : N.st.objs [111] = some b := q5.obj
          have HOB := hide hob
          have hjm : ¬ (((d : Int) + 1) ≤ (d : Int)) := by omega
          by_cases ht0 : t' = 0
          · rw [if_pos ht0] at q4
            obtain ⟨z1, z2, z3, z4⟩ := St.Nx.bad q4 (by omega) 1 d
            obtain ⟨N2, hN2⟩ : ∃ M, M = St.nxt t [111] b e N.st 1 d := ⟨_, rfl⟩
            obtain ⟨r1, r2⟩ := HP3.out _ _ _ q5 N2 hN2
            obtain ⟨y1, y2, y3, y4⟩ := St.Nx.gone r1 1 d
            have HSTQ := hide (fun (W : World) (S D : Nat → Prop) (a : Int) (h : CaS w S D sb cb t a N.st (8 * (d + 1) + 1 + t + t) W) => HST.out _ _ _ _ _ _ _ _ h (by have := HTT.out; omega) 1 (by omega) d (Nat.le_refl _) (q5.few 1) N2 hN2)
            simp only [y1, y2, y3, y4] at HSTQ
            simp only [z1, z2, z3, z4] at HSTP
            have htt1 : ¬ ((1 : Int) < (t : Int)) := by
              have := wt
              rw [ht0, IntWalk.i64_in _ (by omega)] at this; omega
            clear hN hN2 q1 q2 q3 q4 q5 z1 z2 z3 z4 r1 r2 y1 y2 y3 y4 h1 h0 e1 hfew hob hdm
            unfold errR at HSTQ HSTP
            go_wp2_with (first
              | (go_at_call 23; have h5 := HC.out.grow (balloc (Below.refl _ _) (.cells #[.int .i64 2] 3)); refine (StS.script h5.st (some ⟨wr.heap.size, 0, none⟩) 1 1 [2] (IntsArg.made wr [2] _ _ 1 rfl rfl (by omega) (by simp)) rfl (by have := HSL.out; simpa using this)).mono ?_; rintro x w9 ⟨rfl, S9, h, hg⟩; rw [HE1.out] at h; have H9 := hide (h5.other (n' := 8 * (d + 1) + 1) (h.mono (by omega)) hg (by omega)); have hb9 := (HB.out.below (balloc (Below.refl wr.heap.size wr) (.cells #[.int .i64 2] 3))).stGo hg; obtain ⟨d0, d1, d2, d3, d4⟩ := hb9.cells; have HB9 := hide hb9; clear h hg h5 hb9)
              | (have := HI.out; clear this; go_at_call 17; refine (HSTQ.out _ _ _ _ HI.out).mono ?_; rintro x w11 ⟨rfl, a', S', D', h1, h2⟩; have HZ := hide h1.st.below; clear h1 h2)
              | (go_at_call 17; refine (HSTP.out _ _ _ _ H9.out).mono ?_; rintro x w6 ⟨rfl, a', S', D', h1, h2⟩; have H6 := hide h1; have hb6 := HB9.out.go h2; obtain ⟨e0, e1, e2, e3, e4⟩ := hb6.cells; have HB6 := hide hb6; clear h1 h2 hb6 H9)
              | (go_at_call 19; refine (StS.bytes H6.out.st [111] (by simp)).mono ?_; rintro x w7 ⟨v, rfl, ho, hb⟩; have H7 := hide (H6.out.grow hb); have hb7 := HB6.out.below hb; obtain ⟨f0, f1, f2, f3, f4⟩ := hb7.cells; have HB7 := hide hb7; rw [HOB.out] at ho ⊢; obtain ⟨A6, c6, rfl, ha6⟩ := own_n (n := L) ho HLL.out; have HA6 := hide ha6; clear ho hb ha6 hb7 H6; simp only [Option.isSome_some])
              | (go_at_call 20; refine (HSS.out _ H7.out.st.below A6 c6 HA6.out.reads).mono ?_; rintro x w8 ⟨rfl, hw⟩; have H8 := hide (H7.out.grow (below_drew_c hw)); have hb8 := HB7.out.below (below_drew_c hw); obtain ⟨g0, g1, g2, g3, g4⟩ := hb8.cells; have HB8 := hide hb8; clear hw hb8)
              | (go_at_call 11; refine (is_sent _ p (HS.out _ H8.out.st.below) 10 (by omega) 111).mono ?_; rintro x w10 ⟨rfl, hb⟩; have HI := hide (H8.out.grow hb); have hb10 := HB8.out.below hb; obtain ⟨i0, i1, i2, i3, i4⟩ := hb10.cells; clear hb hb10)
              | fail)
            go_ret
            exact ⟨rfl, HZ.out⟩
          · rw [if_neg ht0] at q4
            obtain ⟨z1, z2, z3, z4⟩ := St.Nx.fine q4 1 d
            simp only [z1, z2, z3, z4, q1, q2, q3] at HSTP
            have htt1 : (1 : Int) < (t : Int) := by
              have := wt
              rw [IntWalk.i64_in _ (by omega)] at this; omega
            clear hN q1 q2 q3 q4 q5 z1 z2 z3 z4 h1 h0 e1 hfew hob hdm
            unfold errR at HSTP
            go_wp2_with (first
              | (go_at_call 23; have h5 := HC.out.grow (balloc (Below.refl _ _) (.cells #[.int .i64 2] 3)); refine (StS.script h5.st (some ⟨wr.heap.size, 0, none⟩) 1 1 [2] (IntsArg.made wr [2] _ _ 1 rfl rfl (by omega) (by simp)) rfl (by have := HSL.out; simpa using this)).mono ?_; rintro x w9 ⟨rfl, S9, h, hg⟩; rw [HE1.out] at h; have H9 := hide (h5.other (n' := 8 * (d + 1) + 1) (h.mono (by omega)) hg (by omega)); have hb9 := (HB.out.below (balloc (Below.refl wr.heap.size wr) (.cells #[.int .i64 2] 3))).stGo hg; obtain ⟨d0, d1, d2, d3, d4⟩ := hb9.cells; have HB9 := hide hb9; clear h hg h5 hb9)
              | (go_at_call 17; refine (HSTP.out _ _ _ _ H9.out).mono ?_; rintro x w6 ⟨rfl, a', S', D', h1, h2⟩; have H6 := hide h1; have hb6 := HB9.out.go h2; obtain ⟨e0, e1, e2, e3, e4⟩ := hb6.cells; have HB6 := hide hb6; clear h1 h2 hb6 H9)
              | (go_at_call 19; refine (StS.bytes H6.out.st [111] (by simp)).mono ?_; rintro x w7 ⟨v, rfl, ho, hb⟩; have H7 := hide (H6.out.grow hb); have hb7 := HB6.out.below hb; obtain ⟨f0, f1, f2, f3, f4⟩ := hb7.cells; have HB7 := hide hb7; rw [HOB.out] at ho ⊢; obtain ⟨A6, c6, rfl, ha6⟩ := own_n (n := L) ho HLL.out; have HA6 := hide ha6; clear ho hb ha6 hb7 H6; simp only [Option.isSome_some])
              | (go_at_call 20; refine (HSS.out _ H7.out.st.below A6 c6 HA6.out.reads).mono ?_; rintro x w8 ⟨rfl, hw⟩; have H8 := hide (H7.out.grow (below_drew_c hw)); have hb8 := HB7.out.below (below_drew_c hw); obtain ⟨g0, g1, g2, g3, g4⟩ := hb8.cells; have HB8 := hide hb8; clear hw hb8)
              | fail)
            go_ret
            exact ⟨rfl, H8.out.st.below⟩
  · have hnc : (100 : Int) < (L : Int) := by omega
    clear hs ht ha hL hAl
    go_enter Tryd.func6, Tryd.ntmps6
    go_wp2_with (first
      | (go_at_call 8; refine HF.out.mono ?_; rintro x w1 ⟨rfl, hb⟩; have HB1 := hide hb; clear hb)
      | (have := HB2.out; clear this; go_at_call 14; refine (num_at n1 4 4 w1 (by omega) (by omega) (by omega) h11 h12).mono ?_; rintro x w1' ⟨rfl, rfl⟩; rw [HT'.out])
      | (go_at_call 14; refine (num_at n0 50 50 w1 (by omega) (by omega) (by omega) h01 h02).mono ?_; rintro x w1' ⟨rfl, rfl⟩; rw [HE'.out]; have HB2 := HB1)
      | fail)
    go_ret
    exact ⟨rfl, HB1.out⟩
end Go.Proofs.YtegaahcelogmlaaDoor
