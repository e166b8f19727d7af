/-
  PartCounts, walked.
  PartCounts, proved.
-/
import Derived.Test.YtegaahcelogmlaaDoorPaL
import Derived.Test.YtegaahcelogmlaaDoorR2
import Derived.Test.YtegaahcelogmlaaDoorT2
namespace Go.Proofs.YtegaahcelogmlaaDoor
open Go.RowKit Go.Maps

/-- A row of nothing. -/
def heldNil {G : World → World → Prop} : Held G := ⟨fun v _ => ∃ A c, v = .slice A 0 c, fun _ _ _ h _ => h⟩

set_option maxRecDepth 100000 in
set_option maxHeartbeats 4000000 in
theorem partCounts_walk {E : Nat → Prop} [hE : Told E] (w : World) (p : Nat → Addr) (hs : SentsOn E w p) (ht : Tabs w) (n0 : Int) (h01 : -9223372036854775808 ≤ n0) (h02 : n0 ≤ 9223372036854775807) (A : Option Addr) (c L : Nat) (b : List UInt8) (ha : Arg w A c b) (hL : b.length = L) :
    Calls Tryd.prog 5 #[.slice A L c, .int .i64 n0] w fun x w' => x = .returned (.bool true) ∧ Below w.heap.size w w' := by
  have HF := hide (paFirst_any w ht)
  obtain ⟨e', he'⟩ : ∃ u, num n0 50 = u := ⟨_, rfl⟩
  have hel : e' < 50 := he' ▸ num_lt n0 50 (by omega)
  have HE' := hide he'
  clear he'
  obtain ⟨e, he⟩ : ∃ e, e = e' + 1 := ⟨_, rfl⟩
  have we : IntKind.i64.wrap ((e' : Int) + 1) = (e : Int) := by rw [IntWalk.i64_in _ (by omega)]; omega
  by_cases hle : L ≤ 200
  · have hnc : ¬ ((200 : Int) < (L : Int)) := by omega
    have hcl : St.cnt L e ≤ 200 := Nat.le_trans (St.cnt_le L e (by omega)) hle
    have HMK := hide (fun (W : World) (hW : Below w.heap.size w W) => paMake_any [111] o_valid A c L b e W (ha.below hW (Nat.le_refl _)) hL (by omega) (by omega) (by omega) (ht.below hW (Nat.le_refl _)))
    have HSS := hide (fun (W : World) (hW : Below w.heap.size w W) (A' : Option Addr) (c' : Nat) (h' : Reads W A' b) => sameBytes_same A' A c' c L b hL (by omega) h' ((ha.below hW (Nat.le_refl _)).reads))
    have HST := hide (fun (W : World) (S D : Nat → Prop) (sb cb n : Nat) (a : Int) (s : St.S) (h : CaS w S D sb cb 1 a s n W) (hn : n ≤ 700000) (id : Int) (hid : -9223372036854775808 ≤ id ∧ id ≤ 9223372036854775807) (done : Nat) (hd : done ≤ St.cnt L e) (hf : St.Few b id s) (N : St.Nx) (hN : N = St.nxt 1 [111] b e s id done) => paStep_at (E := E) (nm := [111]) hs ht ha hL (by omega) (by omega) (by decide) (by omega) (by omega) h hn id hid done hd hf N hN)
    have hP0 := fun N hN => St.one_start (b := b) (e := e) o_valid 0 N hN
    have hP1 := fun d done n s h hd hl N hN => St.one_part (nm := [111]) (b := b) (e := e) 0 (d := d) (done := done) (n := n) (s := s) h hd hl (by rw [hL]; omega) N hN
    have hP2 := fun n s h N hN => St.one_comp (nm := [111]) (b := b) (e := e) (by omega) 0 (n := n) (s := s) h (by rw [hL]; omega) N hN
    rw [hL] at hP1 hP2
    have HP0 := hide hP0
    have HP1 := hide hP1
    have HP2 := hide hP2
    have HTT := hide (show 1 ≤ 1 ∧ 1 ≤ 8 by omega)
    have HLL := hide hL
    clear hP0 hP1 hP2 hs ht ha hL he
    generalize St.cnt L e = m at *
    generalize U (Crc.sum b) = sm at *
    go_enter Tryd.func5, Tryd.ntmps5
    go_upto_region 10 with (first
      | (go_at_call 8; refine HF.out.mono ?_; rintro x w1 ⟨rfl, hb⟩; have HB1 := hide hb; clear hb)
      | (go_at_call 14; refine (num_at n0 50 50 w1 (by omega) (by omega) (by omega) h01 h02).mono ?_; rintro x w1' ⟨rfl, rfl⟩; rw [HE'.out])
      | (go_at_call 15; refine (stNew_any w w1 HB1.out).mono ?_; rintro x w2 ⟨sb, S0, rfl, h, -, -⟩; have H2 := hide h; clear h)
      | (go_at_call 16; refine (caNew_any H2.out 1 HTT.out 1 rfl).mono ?_; rintro x w3 ⟨rfl, h, -⟩; have H3 := hide h; clear h H2; generalize w2.heap.size = cb at *)
      | (go_at_call 9; refine (HMK.out _ H3.out.st.below).mono ?_; rintro x w4 ⟨rfl, hb⟩; have H4 := hide (H3.out.grow hb); clear hb H3)
      | fail)
    obtain ⟨h5, hpb⟩ := H4.out.plan (planC [111] L sm e m)
    have H5 := hide h5
    have HPB := hide hpb
    clear h5 hpb
    change Code.wp _ _ _ _ (w4.alloc (.cells (planC [111] L sm e m) 26))
    generalize w4.alloc (.cells (planC [111] L sm e m) 26) = w5 at *
    generalize w4.heap.size = Bp at *
    go_wp2_with fail
    go_loopw [11, 12, 13] (fun id dn i wr => ∃ (j : Nat) (S D : Nat → Prop) (a : Int) (s : St.S), j ≤ m + 2 ∧ id = .int .i64 (if j = 0 then 0 else 1) ∧ dn = .int .i64 ((min (j - 1) m : Nat) : Int) ∧ i = .int .i64 (j : Int) ∧ CaS w S D sb cb 1 a s (2 * j) wr ∧ Pb S cb Bp (planC [111] L sm e m) wr ∧ ((j = 0 ∧ s = St.S.new) ∨ (0 < j ∧ j ≤ m + 1 ∧ St.One [111] b e (j - 1) j s) ∨ (j = m + 2 ∧ St.Nil [111] (some b) j s))) (fun _ _ i _ => m + 2 - (intOf i).toNat)
    case atStart => exact ⟨0, _, _, _, _, Nat.zero_le _, rfl, by simp, rfl, H5.out, HPB.out, .inl ⟨rfl, rfl⟩⟩
    case round =>
      obtain ⟨j, S, D, a, s, hj, rfl, rfl, rfl, hc, hb, hst⟩ := hrel
      obtain ⟨c0, c1, c2, c3, c4⟩ := hb.cells
      have HC := hide hc
      have HB := hide hb
      clear hc hb
      have wm1 : IntKind.i64.wrap ((m : Int) + 1) = (m : Int) + 1 := IntWalk.i64_in _ (by omega)
      rcases hst with ⟨rfl, rfl⟩ | ⟨h0, hjm, h1⟩ | ⟨rfl, h1⟩
      · obtain ⟨N, hN⟩ : ∃ N, N = St.nxt 1 [111] b e St.S.new 0 0 := ⟨_, rfl⟩
        obtain ⟨q1, q2, q3, q4, q5⟩ := HP0.out N hN
        obtain ⟨z1, z2, z3, z4⟩ := St.Nx.fine q1 0 0
        have HSTP := hide (fun (W : World) (S D : Nat → Prop) (a : Int) (h : CaS w S D sb cb 1 a St.S.new (2 * 0) W) => HST.out _ _ _ _ _ _ _ _ h (by omega) 0 (by omega) 0 (by omega) ((St.new_nil [111]).few 0) N hN)
        simp only [z1, z2, z3, z4, q2, q3, q4] at HSTP
        have HQ := hide q5
        have HOB := hide (show St.S.new.objs [111] = none from rfl)
        clear hN q1 q2 q3 q4 q5 z1 z2 z3 z4
        rw [if_pos rfl]
        rw [show ((min (0 - 1) m : Nat) : Int) = 0 by simp]
        unfold errR at HSTP
        have hjm : (0 : Int) ≤ (m : Int) + 1 := by omega
        have hjn : (0 : Int) ≠ (m : Int) + 1 := by omega
        have hb0 : ((0 : Int) == (m : Int) + 1) = false := by simp; omega
        go_wp2_with (first
          | (go_at_call 19; refine (StS.bytes HC.out.st [111] (by simp)).mono ?_; rintro x w6 ⟨v, rfl, ho, hb⟩; rw [HOB.out] at ho ⊢; have H6 := hide (HC.out.grow hb); have hb6 := HB.out.below hb; obtain ⟨d0, d1, d2, d3, d4⟩ := hb6.cells; have HB6 := hide hb6; clear ho hb hb6; simp only [Option.isSome_none])
          | (go_at_call 17; refine (HSTP.out _ _ _ _ H6.out).mono ?_; rintro x w7 ⟨rfl, a', S', D', h1, h2⟩; have H7 := hide h1; have hb7 := HB6.out.go h2; obtain ⟨e0, e1, e2, e3, e4⟩ := hb7.cells; have HB7 := hide hb7; clear h1 h2 hb7)
          | fail)
        exact ⟨⟨1, S', D', a', N.st, by omega, rfl, by simp, rfl, H7.out.mono (by omega), HB7.out, .inr (.inl ⟨by omega, by omega, HQ.out⟩)⟩, by simp [intOf]⟩
      · obtain ⟨d, rfl⟩ : ∃ d, j = d + 1 := ⟨j - 1, by omega⟩
        rw [if_neg (by omega)]
        rw [show d + 1 - 1 = d from rfl] at h1 ⊢
        rw [show ((min d m : Nat) : Int) = (d : Int) by omega]
        have hjm2 : ((d : Int) + 1) ≤ (m : Int) + 1 := by omega
        have wd : IntKind.i64.wrap ((d : Int) + 1 + 1) = (d : Int) + 1 + 1 := IntWalk.i64_in _ (by omega)
        have hd0 : ((d : Int) + 1 == 0) = false := by simp; omega
        have hdp : (0 : Int) < (d : Int) + 1 := by omega
        have HOB := hide h1.obj
        by_cases hdm : d < m
        · obtain ⟨N, hN⟩ : ∃ N, N = St.nxt 1 [111] b e s 1 d := ⟨_, rfl⟩
          obtain ⟨q1, q2, q3, q4, -, q5⟩ := HP1.out d d _ s h1 hdm (Nat.le_refl _) N hN
          have q5 := q5 (by first | rfl | trivial)
          obtain ⟨z1, z2, z3, z4⟩ := St.Nx.fine q1 1 d
          have HSTP := hide (fun (W : World) (S D : Nat → Prop) (a : Int) (h : CaS w S D sb cb 1 a s (2 * (d + 1)) W) => HST.out _ _ _ _ _ _ _ _ h (by omega) 1 (by omega) d (by omega) h1.few N hN)
          simp only [z1, z2, z3, z4, q2, q3, q4] at HSTP
          have HQ := hide q5
          clear hN q1 q2 q3 q4 q5 z1 z2 z3 z4 h1 h0
          unfold errR at HSTP
          have hb0 : ((d : Int) + 1 == (m : Int) + 1) = false := by simp; omega
          have hmn : (if m < d + 1 then (m : Int) else ((d : Int) + 1)) = (d : Int) + 1 := by rw [if_neg (by omega)]
          have hb1 : (((d + 1 : Nat) : Int) != (d : Int) + 1) = false := by simp
          have hb2 : ((d : Int) + 1 != (d : Int) + 1) = false := by simp
          go_wp2_with (first
            | (go_at_call 19; refine (StS.bytes HC.out.st [111] (by simp)).mono ?_; rintro x w6 ⟨v, rfl, ho, hb⟩; rw [HOB.out] at ho ⊢; have H6 := hide (HC.out.grow hb); have hb6 := HB.out.below hb; obtain ⟨d0, d1, d2, d3, d4⟩ := hb6.cells; have HB6 := hide hb6; clear ho hb hb6; simp only [Option.isSome_none])
            | (go_at_call 17; refine (HSTP.out _ _ _ _ H6.out).mono ?_; rintro x w7 ⟨rfl, a', S', D', h1, h2⟩; have H7 := hide h1; have hb7 := HB6.out.go h2; obtain ⟨e0, e1, e2, e3, e4⟩ := hb7.cells; have HB7 := hide hb7; clear h1 h2 hb7)
            | fail)
          exact ⟨⟨d + 1 + 1, S', D', a', N.st, by omega, rfl, by rw [show min (d + 1 + 1 - 1) m = d + 1 by omega]; push_cast; rfl, by push_cast; rfl, H7.out.mono (by omega), HB7.out, .inr (.inl ⟨by omega, by omega, by have h := HQ.out; push_cast at h ⊢; exact h⟩)⟩, by simp [intOf]; omega⟩
        · obtain rfl : d = m := by omega
          obtain ⟨N, hN⟩ : ∃ N, N = St.nxt 1 [111] b e s 1 d := ⟨_, rfl⟩
          obtain ⟨q1, q2, q3, q4, q5⟩ := HP2.out _ s h1 N hN
          obtain ⟨z1, z2, z3, z4⟩ := St.Nx.fine q1 1 d
          have HSTP := hide (fun (W : World) (S D : Nat → Prop) (a : Int) (h : CaS w S D sb cb 1 a s (2 * (d + 1)) W) => HST.out _ _ _ _ _ _ _ _ h (by omega) 1 (by omega) d (by omega) h1.few N hN)
          simp only [z1, z2, z3, z4, q2, q3, q4] at HSTP
          have HQ := hide q5
          clear hN q1 q2 q3 q4 q5 z1 z2 z3 z4 h1 h0
          unfold errR at HSTP
          have hb0 : ((d : Int) + 1 == (d : Int) + 1) = true := by simp
          have hmn : (if d < d + 1 then (d : Int) else ((d : Int) + 1)) = (d : Int) := by rw [if_pos (by omega)]
          have hb2 : ((d : Int) != (d : Int)) = false := by simp
          go_wp2_with (first
            | (go_at_call 19; refine (StS.bytes HC.out.st [111] (by simp)).mono ?_; rintro x w6 ⟨v, rfl, ho, hb⟩; rw [HOB.out] at ho ⊢; have H6 := hide (HC.out.grow hb); have hb6 := HB.out.below hb; obtain ⟨d0, d1, d2, d3, d4⟩ := hb6.cells; have HB6 := hide hb6; clear ho hb hb6; simp only [Option.isSome_none])
            | (go_at_call 17; refine (HSTP.out _ _ _ _ H6.out).mono ?_; rintro x w7 ⟨rfl, a', S', D', h1, h2⟩; have H7 := hide h1; have hb7 := HB6.out.go h2; obtain ⟨e0, e1, e2, e3, e4⟩ := hb7.cells; have HB7 := hide hb7; clear h1 h2 hb7)
            | fail)
          exact ⟨⟨d + 2, S', D', a', N.st, by omega, rfl, by rw [show min (d + 2 - 1) d = d by omega], by push_cast; rfl, H7.out.mono (by omega), HB7.out, .inr (.inr ⟨rfl, by have h := HQ.out; push_cast at h ⊢; exact h⟩)⟩, by simp [intOf]; omega⟩
      · rw [if_neg (by omega)]
        rw [show ((min (m + 2 - 1) m : Nat) : Int) = (m : Int) by omega]
        have hjm2 : ¬ (((m : Int) + 2) ≤ (m : Int) + 1) := by omega
        have HOB := hide h1.obj
        have HNI := hide h1
        clear h1
        go_upto_region 26 with (first
          | (go_at_call 19; refine (StS.bytes HC.out.st [111] (by simp)).mono ?_; rintro x w8 ⟨v, rfl, ho, hb⟩; rw [HOB.out] at ho ⊢; have H8 := hide (HC.out.grow hb); have hb8 := HB.out.below hb; obtain ⟨d0, d1, d2, d3, d4⟩ := hb8.cells; have HB8 := hide hb8; obtain ⟨A6, c6, rfl, ha6⟩ := own_n (n := L) ho HLL.out; have HA6 := hide ha6; clear ho hb hb8 ha6; simp only [Option.isSome_some])
          | fail)
        have hBl : Bp < w8.heap.size := (Array.getElem?_eq_some_iff.1 HB8.out.box).1
        have hk4 := d4
        clear c0 c1 c2 c3 c4 d0 d1 d2 d3 d4
        refine wp_region_guard (G := fun a b : World => Below a.heap.size a b) ⟨fun w => Below.refl _ w, fun h k => h.trans (k.mono h.size)⟩ [124, 125, 126, 127, 128, 129, 130, 131, 132, 133, 134, 135, 136, 137, 138, 139, 140, 141, 142, 143, 4] (fun d => match d with
    | 124 => .is (.bool true) | 125 => .is (.bool true) | 126 => .is (.slice A6 L c6) | 127 => .is (.slice A L c) | 128 => .is (.bool true) | 129 => .is (.bool true) | 130 => .is (.bool true) | 131 => .is (.pointer (some ⟨sb, 0, none⟩)) | 132 => heldNil | 133 => .is (.int .i64 0) | 134 => .is (.bool true) | 135 => .is (.bool true) | 136 => .is (.bool true) | 137 => .is (.pointer (some ⟨sb, 0, none⟩)) | 138 => .is (.int .i64 ((m : Int) + 2)) | 139 => .is (.pointer (some ⟨Bp, 4, none⟩)) | 140 => .is (.int .i64 (m : Int)) | 141 => .is (.int .i64 ((m : Int) + 2)) | 142 => .is (.bool true) | 143 => .is (.bool true) | 4 => .is (.bool true) | _ => .any) (by kernel_rfl) (by kernel_rfl) (by kernel_rfl) ?_ ?_
        · simp only [StepsG]
          refine ⟨?_, ?_, ?_, ?_, ?_, ?_, ?_, ?_, ?_, ?_, ?_, ?_, ?_, ?_, ?_, ?_, ?_, ?_, ?_, ?_, ?_, trivial⟩
          all_goals
            intro ev w6 hb hev hd
            have ev21 : ev (.tmp 21) = .bool true := hev _ (by simp)
            have ev20 : ev (.tmp 20) = .slice A6 L c6 := hev _ (by simp)
            have ev0 : ev (.tmp 0) = .slice A L c := hev _ (by simp)
            have ev6 : ev (.tmp 6) = .pointer (some ⟨sb, 0, none⟩) := hev _ (by simp)
            have ev9 : ev (.tmp 9) = .pointer (some ⟨Bp, 0, none⟩) := hev _ (by simp)
            have evf : ∀ f, ev (.func f) = .func (.func f) #[] #[] := fun f => hev _ (by simp)
            have evc : ∀ c, ev (.const c) = c := fun c => hev _ (by simp)
            have HB6 : Hid (Below w8.heap.size w8 w6) := hide ((Below.refl w8.heap.size w8).drew.trans hb)
            have k4 := (HB6.out.cell (p := ⟨Bp, 4, none⟩) hBl).trans hk4
            have wm2 : IntKind.i64.wrap ((m : Int) + 2) = (m : Int) + 2 := IntWalk.i64_in _ (by omega)
            clear hev hb
            simp [DepsG, Held.is] at hd
            try simp [OpGuard, OpRuns, execOp, go_sem, Held.is, Below.refl, *]
          · exact (HSS.out w6 (H8.out.grow HB6.out).st.below A6 c6 (HA6.out.below HB6.out (Nat.le_refl _)).reads).mono fun e w'' ⟨he, hw⟩ => ⟨he, below_drew_c hw⟩
          · exact (StS.openOf (H8.out.st.grow HB6.out) (by omega)).mono fun e w'' ⟨v, l, he, hl, ho, hb⟩ => ⟨v, he, hb, by obtain rfl := St.lists_nil hl HNI.out.ups; obtain ⟨A', c', h, -⟩ := own_z (n := 0) ho rfl (by simp); exact ⟨A', c', h⟩⟩
          · obtain ⟨A', c', hd⟩ : ∃ A' c', ev (.tmp 132) = .slice A' 0 c' := by first | exact hd.1 | exact hd.2 | exact hd.2.1
            simp [hd, go_sem, Below.refl]
          · exact (StS.callsOf (H8.out.st.grow HB6.out)).mono fun e w'' ⟨he, hw⟩ => ⟨by rw [he, HNI.out.calls]; push_cast; rfl, by rw [hw]; exact Below.refl _ _⟩
        · intro f w9 hb hf
          have e4 : f 4 = .bool true := hf 4 (by simp)
          have HB9 : Hid (Below w8.heap.size w8 w9) := hide ((Below.refl w8.heap.size w8).drew.trans hb)
          clear hf hb
          simp only [puts, Act.put, List.setIfInBounds_toArray, List.set_cons_succ, List.set_cons_zero]
          rw [e4]
          clear e4
          generalize f 124 = q124
          generalize f 125 = q125
          generalize f 126 = q126
          generalize f 127 = q127
          generalize f 128 = q128
          generalize f 129 = q129
          generalize f 130 = q130
          generalize f 131 = q131
          generalize f 132 = q132
          generalize f 133 = q133
          generalize f 134 = q134
          generalize f 135 = q135
          generalize f 136 = q136
          generalize f 137 = q137
          generalize f 138 = q138
          generalize f 139 = q139
          generalize f 140 = q140
          generalize f 141 = q141
          generalize f 142 = q142
          generalize f 143 = q143
          clear f
          go_wp2_with fail
          go_ret
          exact ⟨rfl, (H8.out.grow HB9.out).st.below⟩
  · have hnc : (200 : Int) < (L : Int) := by omega
    clear hs ht ha hL
    go_enter Tryd.func5, Tryd.ntmps5
    go_wp2_with (first
      | (go_at_call 8; refine HF.out.mono ?_; rintro x w1 ⟨rfl, hb⟩; have HB1 := hide hb; clear hb)
      | (go_at_call 14; refine (num_at n0 50 50 w1 (by omega) (by omega) (by omega) h01 h02).mono ?_; rintro x w1' ⟨rfl, rfl⟩; rw [HE'.out])
      | fail)
    go_ret
    exact ⟨rfl, HB1.out⟩
end Go.Proofs.YtegaahcelogmlaaDoor

namespace Go.Proofs.YtegaahcelogmlaaDoor.PartCountsLaw
open Go.Proofs.YtegaahcelogmlaaDoor
open Go.RowKit Go.ChangeShapes Go.WideShapes Go.ChangeAt

set_option maxRecDepth 100000 in
set_option maxHeartbeats 8000000 in
theorem lifted (os : Os) (started : os.Started) (H : Type) (enc : TypeId × Value → H) :
    ReturnsInHanded {} Tryd.checked os 5 .any (fun w args => (Rows.partCountsSpec.pre enc Tryd.prog Tryd.f5 [] false w args ∧ laidMetH Tryd.prog laidQ w) ∧ sizedMet enc Tryd.prog Tryd.f5 (OpenSpec.ofChange Rows.partCountsSpec) false w args)
      (Rows.partCountsSpec.post enc Tryd.prog Tryd.f5 false true false false) := by
  refine returnsInHanded_both (C := Tryd.checked) (X := fun w _ => laidMetH Tryd.prog laidQ w) (fun _ _ _ hh h => h.of_heap hh) own started (by kernel_rfl) Tryd.func5
    (ChangeSpec.witness_shaped (enc := enc) (C := Tryd.checked) (os := os) (X := fun w _ => laidMetH Tryd.prog laidQ w) false (World.laidAll Tryd.prog os laidQ) #[.slice none 0 0, .int .i64 0] 8 (World.laidAll_os _ _ _) (World.shaped_of_ZipB (by kernel_rfl) (by kernel_rfl)) (by kernel_rfl) (by kernel_rfl) (by kernel_rfl) (by rw [MakeChecks.laidMetH_plain _ _ _ (by kernel_rfl)]; exact laidMet_laidAll _ (by kernel_rfl) (by kernel_rfl))) ?_
  intro W base args ds gs before hval0 hW hL _
  have hval : ∀ (j : Nat) t v, Tryd.f5.params[j]? = some t → args[j]? = some v → Value.okWide Tryd.prog W .any base t v := hval0
  have hW' := hW
  obtain ⟨p, q, hA0, hV, rfl, hfz, hnd⟩ := hW
  have hA : DataW.TrodAll enc Tryd.prog W 0 (fun _ => true) true Tryd.f5.params.toList args.toList ds p := hA0
  rw [Tryd.params5] at hA hval
  obtain ⟨v0, vs0, d0, ds0, p0, q0, hargs, rfl, rfl, h0, r0⟩ := trodAll_cons hA
  obtain ⟨v1, vs1, d1, ds1, p1, q1, rfl, rfl, rfl, h1, r1⟩ := trodAll_cons r0
  obtain ⟨rfl, rfl, rfl⟩ := trodAll_nil r1
  obtain rfl : args = #[v0, v1] := by cases args; simp_all
  obtain ⟨rfl, rfl⟩ := trodVars_none hV
  obtain ⟨a0, len0, cap0, rfl⟩ := okWide_slice Tryd.underlying22 (hval 0 22 v0 rfl rfl)
  have k0 := h0
  have lt0 : ∀ x ∈ p0, x.block < W.heap.size := by obtain ⟨m, hm⟩ := k0; exact DataW.trod_lt m _ _ _ hm
  obtain ⟨l0, rfl, w0⟩ := arg_of h0
  obtain ⟨a1, rfl, rfl, rfl, w1⟩ := open_int Tryd.underlying3 (hval 1 3 v1 rfl rfl) h1
  have hb1 := bounds_i64 w1
  clear hA0 hval0
  have htab := tabs_of_q hL
  obtain ⟨ps, hsent⟩ := sents_of_q hL
  refine (partCounts_walk W ps hsent htab a1 hb1.1 hb1.2 a0 cap0 _ l0 w0 rfl).mono fun e W' ⟨he, bel⟩ => ?_
  subst he
  exact ⟨_, rfl, _, _, _, [], _, [], hW', trodAll_mk1 (shut_bool Tryd.underlying4 _), (trodAll_cons_mk (Below.trod laidOut (by kernel_rfl) (of_decide_eq_true (by kernel_rfl)) k0 bel lt0) (trodAll_cons_mk (shut_int Tryd.underlying3 w1) trodAll_mk0)), rfl, bel.frame _, fun h => by cases h⟩

theorem row : Rows.PartCountsSaid :=
  OpenClaim.holds_of_wide 5 Tryd.f5 rfl rfl rfl rfl rfl rfl rfl ⟨rfl, rfl, rfl, rfl, rfl⟩ rfl rfl rfl rfl rfl (by kernel_rfl) Tryd.func5 (by kernel_rfl)
    (of_decide_eq_true (by kernel_rfl)) (by unfold Func.isWrapper; first | (rw [if_pos (by decide +kernel)]; kernel_rfl) | (rw [if_neg (by decide +kernel)]; exact ⟨rfl, rfl⟩))
    (fun os started H enc _ => lifted os started H enc)

theorem proved : Rows.PartCountsCardSaid :=
  Claim7.holds_tied_plain_at .later [] _ true _ true
    row (fun _ h => by cases h) (by kernel_rfl) (fun _ h => by cases h) partCounts_row_tie rfl ⟨rfl, rfl⟩ (by kernel_rfl) rfl
    (fun f fn hf hfn => by
      obtain rfl : f = 5 := Option.some.inj ((show Tryd.prog.funcNamed "cordwood/cordwoodlaw13.PartCounts" = some 5 by kernel_rfl).symm.trans hf) |>.symm
      obtain rfl : fn = Tryd.f5 := (Option.some.inj (Tryd.func5.symm.trans hfn)).symm
      exact ⟨by kernel_rfl, fun j t ht => by
        rw [Tryd.params5] at ht
        have hm : t ∈ [22, 3] := by simpa using Array.mem_of_getElem? ht
        have hall : ([22, 3].all fun u => !Tryd.prog.wantsStandIn u) = true := by kernel_rfl
        exact (show Tryd.prog.wantsStandIn t = false by simpa using List.all_eq_true.1 hall t hm)⟩)
    (by kernel_rfl)
end Go.Proofs.YtegaahcelogmlaaDoor.PartCountsLaw
