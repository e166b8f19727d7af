/-
  The chapter's example: first(); CallEnds, walked.
  CallEnds, walked.
  CallReads, walked.
  CallReads, proved.
-/
import Derived.Test.YtlflijhnlcdakaaGreatDoorU1
import Derived.Test.YtlflijhnlcdakaaGreatDoorT4
import Derived.Test.YtlflijhnlcdakaaGreatDoorR4
import Derived.Test.YtlflijhnlcdakaaGreatDoorR3
import Derived.LoopTactic
import Derived.Deep.LoopGhost
import Derived.Test.YtlflijhnlcdakaaGreatDoorT2
namespace Go.Proofs.YtlflijhnlcdakaaGreatDoor.St

/-- A new store whose next outcomes are so many of one kind. -/
def sE (i : Nat) (o : Int) : S := { S.new with script := List.replicate i o }
theorem sE_zero (o : Int) : S.new = sE 0 o := rfl
theorem sE_more (i : Nat) (o : Int) : (sE i o).scripted [o] = sE (i + 1) o := by
  simp [sE, S.scripted, S.new, ← List.replicate_succ']
theorem cput_of (k : Nm) (hk : Dk.valid k = true) (b : List UInt8) (o : Int) (ho : BadO o) (t m : Nat) (ht : 0 < t) (s : S) (hs : s.script = List.replicate m o) :
    (cput t k b s).r = (if m < t then none else some 10) ∧ (cput t k b s).k = min (m + 1) t ∧ (cput t k b s).st.objs k = (if m < t ∨ o = 2 then some b else s.objs k) := by
  obtain ⟨h1, h2, h3⟩ := put_rep k hk b o ho t m none s hs
  obtain ⟨q1, q2, q3, q4⟩ := agn_lead (asks_bare (put_mild k b)) t none s
  rw [hs, lead_rep o ho] at q1
  refine ⟨?_, ?_, ?_⟩
  · by_cases h : m < t
    · rw [if_pos h]; exact h1 h
    · rw [if_neg h]; exact h2 (by omega) (.inl ht)
  · show (agn _ t none s).k = _
    rw [q1]; split <;> omega
  · show (agn _ t none s).st.objs k = _
    rw [h3]
    simp [ht]
end Go.Proofs.YtlflijhnlcdakaaGreatDoor.St
namespace Go.Proofs.YtlflijhnlcdakaaGreatDoor
open Go.RowKit Go.Maps

set_option maxRecDepth 100000 in
set_option maxHeartbeats 1000000 in
theorem caFirst_any {E : Nat → Prop} (h5 : E 5) (h10 : E 10) (w : World) (p : Nat → Addr) (hs : SentsOn E w p) : Calls Tryz.prog 37 #[] w fun e w' => e = .returned (.bool true) ∧ Below w.heap.size w w' := by
  have HS := hide hs
  have H5E := hide h5
  have H10E := hide h10
  have HF := hide (St.cput_of [97] (by decide) [] 2 (.inr rfl) 2 1 (by omega) (St.S.new.scripted [2]) rfl)
  have HA0 : Hid (∀ W : World, Arg W none 0 []) := hide (fun W => ⟨by simp, by omega, fun _ => rfl, .inl rfl⟩)
  clear hs h5 h10
  go_enter Tryz.func37, Tryz.ntmps37
  go_wp2_with (first
    | (go_at_call 7; refine (stNew_any w w (Below.refl _ _)).mono ?_; rintro e w1 ⟨sb, S, rfl, h, -, -⟩; have H1 := hide h; clear h)
    | (go_at_call 38; refine (caNew_any H1.out 2 (by omega) 2 rfl).mono ?_; rintro e w2 ⟨rfl, h, -⟩; have H2 := hide h; clear h H1; generalize w1.heap.size = cb at *)
    | (go_at_call 33; have h2g := H2.out.grow (balloc (Below.refl _ _) (.cells #[.int .i64 2] 3)); refine (StS.script h2g.st (some ⟨w2.heap.size, 0, none⟩) 1 1 [2] (IntsArg.made w2 [2] _ _ 1 rfl rfl (by omega) (by simp)) rfl (by decide)).mono ?_; rintro e w3 ⟨rfl, S3, h, hg⟩; have H3 := hide (h2g.other h hg (Nat.le_refl _)); clear h hg h2g H2)
    | (go_at_call 39; refine (H3.out.putE H5E.out H10E.out p HS.out (by omega) (by omega) [97] (by simp) none 0 0 [] (HA0.out _) rfl (by omega) (fun x o e => by cases e)).mono ?_; rintro e w4 ⟨rfl, S4, D4, h, -⟩; rw [HF.out.2.1] at h; rw [HF.out.1]; have H4 := hide h; have HAS := hide h.askedOf; clear h H3; simp only [errR])
    | (go_at_call 59; refine HAS.out.mono ?_; rintro e w5 ⟨rfl, rfl⟩)
    | fail)
  go_ret
  exact ⟨rfl, H4.out.st.below⟩
end Go.Proofs.YtlflijhnlcdakaaGreatDoor

namespace Go.Proofs.YtlflijhnlcdakaaGreatDoor
open Go.RowKit Go.Maps

theorem below_drew_c {w w' : World} (h : ∃ k, w' = w.drewN k) : Below w.heap.size w w' := by
  obtain ⟨k, rfl⟩ := h; exact below_drewN (Below.refl _ _) k
theorem sameBytes_same (A A' : Option Addr) (cap cap' n : Nat) (l : List UInt8) {w : World} (hn : l.length = n) (hl : n ≤ 1000000) (hr : Reads w A l) (hr' : Reads w A' l) :
    Calls Tryz.prog 14 #[.slice A n cap, .slice A' n cap'] w fun e w' => e = .returned (.bool true) ∧ ∃ k, w' = w.drewN k :=
  (sameBytes_any A A' cap cap' n n l l w hn hn hl hl hr hr').mono fun e w' ⟨he, hw⟩ => ⟨by rw [he]; simp, hw⟩

end Go.Proofs.YtlflijhnlcdakaaGreatDoor

namespace Go.Proofs.YtlflijhnlcdakaaGreatDoor
open Go.RowKit Go.Maps

theorem own_z0 {w : World} {base : Nat} {v : Value} (h : OwnZ w base v []) : ∃ A c, v = .slice A 0 c := by
  rcases h.2 with ⟨rfl, _⟩ | ⟨g, cap, cur, rfl, _⟩
  · exact ⟨_, _, rfl⟩
  · exact ⟨_, _, rfl⟩

set_option maxRecDepth 100000 in
set_option maxHeartbeats 4000000 in
theorem callReads_walk (w : World) (p : Nat → Addr) (hs : Sents w p) (htb : Tabs w) (A : Option Addr) (cap L : Nat) (b : List UInt8) (ha : Arg w A cap b) (hL : b.length = L) (A2 : Option Addr) (cap2 N : Nat) (zs : List Int) (hz : IntsArg w A2 cap2 zs) (hN : zs.length = N) (off n : Int) (h01 : -9223372036854775808 ≤ off) (h02 : off ≤ 9223372036854775807) (h11 : -9223372036854775808 ≤ n) (h12 : n ≤ 9223372036854775807) :
    Calls Tryz.prog 5 #[.slice A L cap, .slice A2 N cap2, .int .i64 off, .int .i64 n] w fun e w' => e = .returned (.bool true) ∧ Below w.heap.size w w' := by
  have HS := hide hs
  have HTB := hide htb
  have HA := hide ha
  have HL := hide hL
  have HZ := hide hz
  have HN := hide hN
  have HF := hide (caFirst_any (E := fun j => j < 19) (by omega) (by omega) w p hs)
  have HAS : Hid (∀ (S : Nat → Prop) (cb : Nat), (∀ x, S x → w.heap.size ≤ x) → w.heap.size ≤ cb → ∀ x o, A = some ⟨x, o, none⟩ → b ≠ [] → ¬ S x ∧ ¬ x = cb) := hide (fun S cb hS hcb x o e hb => by
    have hx : x < w.heap.size := by
      rcases ha.reads with h1 | ⟨g, off, e1, hlt, -⟩
      · exact absurd h1 hb
      · rw [e1] at e; injection e with e; injection e with e _ _; subst e; exact hlt
    exact ⟨fun h => by have := hS x h; omega, fun e => by omega⟩)
  clear hs htb ha hL hz hN
  by_cases hle : L ≤ 100
  · by_cases hle2 : N ≤ 20
    · have HPUT := hide (St.o_put b)
      obtain ⟨x, hx⟩ : ∃ x, num off (L + 1) = x := ⟨_, rfl⟩
      have hxl := num_lt off (L + 1) (by omega)
      rw [hx] at hxl
      obtain ⟨m, hm⟩ : ∃ m, num n (L - x + 1) = m := ⟨_, rfl⟩
      have hml := num_lt n (L - x + 1) (by omega)
      rw [hm] at hml
      have HX := hide hx
      have HM := hide hm
      have hw1 : IntKind.i64.wrap ((L : Int) + 1) = (L : Int) + 1 := IntWalk.i64_in _ (by omega)
      have hw0 : IntKind.i64.wrap ((L : Int) - (x : Int)) = (L : Int) - (x : Int) := IntWalk.i64_in _ (by omega)
      have hw3 : IntKind.i64.wrap ((L : Int) - (x : Int) + 1) = (L : Int) - (x : Int) + 1 := IntWalk.i64_in _ (by omega)
      have HN1 := hide (fun W => num_at off ((L : Int) + 1) (L + 1) W (by push_cast; rfl) (by omega) (by omega) h01 h02)
      have HN2 := hide (fun W => num_at n ((L : Int) - (x : Int) + 1) (L - x + 1) W (by omega) (by omega) (by omega) h11 h12)
      clear hx hm h01 h02 h11 h12
      obtain ⟨y, hy⟩ : ∃ y, y = x + m := ⟨_, rfl⟩
      have hw2 : IntKind.i64.wrap ((x : Int) + (m : Int)) = (y : Int) := by rw [IntWalk.i64_in _ (by omega)]; omega
      have hcl := HA.out.le
      have hct := fun W => run_cut_lh W A L cap x y (by omega) (by have := HL.out; omega)
      rw [show y - x = m by omega] at hct
      have HLN : Hid (((b.drop x).take m).length = m) := hide (by rw [List.length_take, List.length_drop]; have := HL.out; omega)
      have hyL : y ≤ cap := by have := HL.out; omega
      have hxy : x ≤ y := by omega
      have HRD := hide (St.reads b x m (by have := HL.out; omega))
      have HLS := hide (St.lists b)
      have HHD := hide (St.heads b)
      have HRS : Hid (∀ W, Below w.heap.size w W → Reads W (cutA A cap x) ((b.drop x).take m)) := hide (fun W hb => ((((HA.out.below hb (Nat.le_refl _)).cut x (by have := HL.out; omega))).first m).reads)
      have hxle : x ≤ L := by omega
      have hmle : m ≤ 100 := by omega
      have HY := hide hy
      have hlc : (L : Int) ≤ 100 := by omega
      have hnc : (N : Int) ≤ 20 := by omega
      clear hy hxl hml
      go_enter Tryz.func5, Tryz.ntmps5
      go_wp2_with (first
        | (go_at_call 37; refine HF.out.mono ?_; rintro e w1 ⟨rfl, hb⟩; have HB1 := hide hb; clear hb)
        | (have := HB2.out; clear this; go_at_call 64; refine (HN2.out w4).mono ?_; rintro e w1' ⟨rfl, rfl⟩; rw [HM.out])
        | (go_at_call 64; refine (HN1.out w4).mono ?_; rintro e w1' ⟨rfl, rfl⟩; rw [HX.out]; have HB2 := HB1)
        | (go_at_call 7; refine (stNew_any w w1 HB1.out).mono ?_; rintro e w2 ⟨sb, S, rfl, h, -, -⟩; have H2 := hide h; clear h)
        | (go_at_call 38; refine (caNew_any H2.out 3 (by omega) 3 rfl).mono ?_; rintro e w3 ⟨rfl, h, -⟩; have H3 := hide h; clear h H2; generalize w2.heap.size = cb at *)
        | (go_at_call 39; refine (H3.out.putE (E := fun j => j < 19) (by omega) (by omega) p HS.out (by omega) (by omega) [97] (by simp) A cap L b (HA.out.below H3.out.st.below (Nat.le_refl _)) HL.out (by omega) (HAS.out _ _ (fun x hx => H3.out.st.lo x (.inl hx)) H3.out.lo)).mono ?_; rintro e w4 ⟨rfl, S4, D4, h, -⟩; rw [HPUT.out.1]; have HQ4 := hide HPUT.out.2; clear HPUT; generalize St.cput 3 [97] b St.S.new = A1 at h HQ4; obtain ⟨a4, h⟩ : ∃ a4, CaS w S4 D4 sb cb 3 a4 A1.st 3 w4 := ⟨_, h⟩; have H4 := hide h; clear h H3; unfold errR)
        | (go_at_call 33; refine (StS.script H4.out.st A2 cap2 N zs (HZ.out.below H4.out.st.below (Nat.le_refl _)) HN.out (by have := HN.out; have h1 := HQ4.out.1; rw [h1]; simp; omega)).mono ?_; rintro e w5 ⟨rfl, S5, h, hg⟩; have H5 := hide (H4.out.other h hg (Nat.le_refl _)); have HQ5 := hide (HQ4.out.2.scripted zs); clear h hg H4 HQ4)
        | fail)
      go_loopw [13] (fun i wr => ∃ (j : Nat) (a : Int) (s : St.S) (S D : Nat → Prop), j ≤ 8 ∧ i = .int .i64 j ∧ St.OneO b s ∧ CaS w S D sb cb 3 a s (3 + 9 * j) wr) (fun i _ => 8 - (intOf i).toNat)
      case atStart => exact ⟨0, a4, _, S5, D4, by omega, rfl, HQ5.out, H5.out⟩
      case round =>
        obtain ⟨j, a5, s5, S6, D6, hj, rfl, hq, h6⟩ := hrel
        have H6 := hide h6
        have HQ6 := hide hq
        clear h6 hq H5 HQ5
        by_cases hlt : j < 8
        · have k10 := eql_nil (p 10)
          have n10 := neq_nilD (p 10)
          unfold errV at k10 n10
          obtain ⟨q1, hr⟩ := HRD.out s5 HQ6.out
          have HQ1 := hide q1
          have HGET := hide (H6.out.get p HS.out (by omega) (by omega) [97] (by simp) x (by omega) m (by omega))
          generalize hA1 : St.again (St.askOf fun s => s.ask [] (St.S.getF [97] x m)) 3 (s5, []) = A1 at *
          obtain ⟨q2, hr2⟩ := HLS.out A1.st.1 HQ1.out
          have HQ2 := hide q2
          have HLIST := hide (fun (S D : Nat → Prop) (a : Int) (n : Nat) (W : World) (h : CaS w S D sb cb 3 a A1.st.1 n W) (hn : n ≤ 900000) => h.list p HS.out (by omega) hn [] (St.OneO b) (fun s h => St.OneO.asked h) (fun s h l hl => by rw [St.list_one b h hl]; simp) HQ1.out)
          generalize hA2 : St.again (St.askOf fun s => s.ask none St.S.listF) 3 (A1.st.1, none) = A2' at *
          obtain ⟨q3, hr3⟩ := HHD.out A2'.st.1 HQ2.out
          have HQ3 := hide q3
          have HHEAD := hide (fun (S D : Nat → Prop) (a : Int) (n : Nat) (W : World) (h : CaS w S D sb cb 3 a A2'.st.1 n W) (hn : n ≤ 900000) => h.head p HS.out HTB.out (by omega) hn [97] (by simp))
          have eh : St.chead 3 [97] A2'.st.1 = St.again (St.askOf fun s => s.ask [] (St.S.headF [97])) 3 (A2'.st.1, []) := rfl
          rw [← eh] at HQ3 hr3
          generalize hA3 : St.chead 3 [97] A2'.st.1 = A3' at *
          clear hA1 hA2 hA3 eh q1 q2 q3
          rcases hr with ⟨hr, hv⟩ | ⟨hr, hv⟩ <;> rcases hr2 with ⟨hr2, tt, hv2, ht2⟩ | ⟨hr2, hv2⟩ <;> rcases hr3 with ⟨hr3, hv3⟩ | ⟨hr3, hv3⟩
          · have HR1 := hide hr
            have HV1 := hide hv
            have HR2 := hide hr2
            have HV2 := hide hv2
            have HR3 := hide hr3
            have HV3 := hide hv3
            have HT2 := hide ht2
            clear ht2
            clear hr hv hr2 hv2 hr3 hv3
            go_wp2_with (first
              | (go_at_call 41; refine HGET.out.mono ?_; rintro e w7 ⟨v7, rfl, ho, S7, D7, h, -⟩; rw [HV1.out] at ho; rw [HR1.out]; obtain ⟨A7, c7, rfl, ha7⟩ := own_n (n := m) ho HLN.out; have HA7 := hide ha7; have H7 := hide h; clear h ho ha7 H6 HGET; unfold errR)
              | (go_at_call 14; refine (sameBytes_any A7 (cutA A cap x) c7 (cap - x) m m ((b.drop x).take m) ((b.drop x).take m) w7 HLN.out HLN.out (by omega) (by omega) HA7.out.reads (HRS.out _ H7.out.st.below)).mono ?_; rintro e w8 ⟨rfl, hq⟩; have H8 := hide (H7.out.grow (below_drew_c hq)); rw [decide_eq_true (rfl : (b.drop x).take m = (b.drop x).take m)]; clear hq H7 HA7)
              | (go_at_call 45; refine (HLIST.out _ _ _ _ _ H8.out (by omega)).mono ?_; rintro e w9 ⟨v9, rfl, hls, S9, D9, h, -⟩; rw [HV2.out] at hls; rw [HR2.out]; obtain ⟨l9, hl9, ho9⟩ := hls; obtain rfl := St.under_one b HT2.out hl9; obtain ⟨A9, c9, rfl, hr9⟩ := own_t (n := 1) ho9 rfl; have HR9 := hide hr9; clear hl9 ho9 hr9; have H9 := hide h; clear h H8 HLIST; unfold errR)
              | (go_at_call 19; refine (sameTexts_any A9 (some ⟨w9.heap.size, 0, none⟩) c9 1 1 1 [[97]] [[97]] _ rfl rfl (by omega) (by omega) (HR9.out.below (balloc (Below.refl _ _) _) (Nat.le_refl _)) (ReadsT.made _ _ _ _ _ _ rfl rfl)).mono ?_; rintro e w10 ⟨rfl, hq⟩; have H10 := hide ((H9.out.grow (balloc (Below.refl _ _) _)).grow (below_drew_c hq)); rw [decide_eq_true rfl]; clear hq H9 HR9)
              | (go_at_call 43; refine (HHEAD.out _ _ _ _ _ H10.out (by omega)).mono ?_; rintro e w11 ⟨rfl, S11, D11, h, -⟩; rw [HV3.out, HR3.out]; rw [HL.out]; have H11 := hide h; clear h H10 HHEAD; unfold errR)
              | fail)
            exact ⟨⟨j + 1, _, _, S11, D11, by omega, by simp, HQ3.out, H11.out.mono (by omega)⟩, by simp [intOf]; omega⟩
          · have HR1 := hide hr
            have HV1 := hide hv
            have HR2 := hide hr2
            have HV2 := hide hv2
            have HR3 := hide hr3
            have HV3 := hide hv3
            have HT2 := hide ht2
            clear ht2
            clear hr hv hr2 hv2 hr3 hv3
            go_wp2_with (first
              | (go_at_call 41; refine HGET.out.mono ?_; rintro e w7 ⟨v7, rfl, ho, S7, D7, h, -⟩; rw [HV1.out] at ho; rw [HR1.out]; obtain ⟨A7, c7, rfl, ha7⟩ := own_n (n := m) ho HLN.out; have HA7 := hide ha7; have H7 := hide h; clear h ho ha7 H6 HGET; unfold errR)
              | (go_at_call 14; refine (sameBytes_any A7 (cutA A cap x) c7 (cap - x) m m ((b.drop x).take m) ((b.drop x).take m) w7 HLN.out HLN.out (by omega) (by omega) HA7.out.reads (HRS.out _ H7.out.st.below)).mono ?_; rintro e w8 ⟨rfl, hq⟩; have H8 := hide (H7.out.grow (below_drew_c hq)); rw [decide_eq_true (rfl : (b.drop x).take m = (b.drop x).take m)]; clear hq H7 HA7)
              | (go_at_call 45; refine (HLIST.out _ _ _ _ _ H8.out (by omega)).mono ?_; rintro e w9 ⟨v9, rfl, hls, S9, D9, h, -⟩; rw [HV2.out] at hls; rw [HR2.out]; obtain ⟨l9, hl9, ho9⟩ := hls; obtain rfl := St.under_one b HT2.out hl9; obtain ⟨A9, c9, rfl, hr9⟩ := own_t (n := 1) ho9 rfl; have HR9 := hide hr9; clear hl9 ho9 hr9; have H9 := hide h; clear h H8 HLIST; unfold errR)
              | (go_at_call 19; refine (sameTexts_any A9 (some ⟨w9.heap.size, 0, none⟩) c9 1 1 1 [[97]] [[97]] _ rfl rfl (by omega) (by omega) (HR9.out.below (balloc (Below.refl _ _) _) (Nat.le_refl _)) (ReadsT.made _ _ _ _ _ _ rfl rfl)).mono ?_; rintro e w10 ⟨rfl, hq⟩; have H10 := hide ((H9.out.grow (balloc (Below.refl _ _) _)).grow (below_drew_c hq)); rw [decide_eq_true rfl]; clear hq H9 HR9)
              | (go_at_call 43; refine (HHEAD.out _ _ _ _ _ H10.out (by omega)).mono ?_; rintro e w11 ⟨rfl, S11, D11, h, -⟩; rw [HV3.out, HR3.out]; have H11 := hide h; clear h H10 HHEAD; unfold errR errV)
              | fail)
            exact ⟨⟨j + 1, _, _, S11, D11, by omega, by simp, HQ3.out, H11.out.mono (by omega)⟩, by simp [intOf]; omega⟩
          · have HR1 := hide hr
            have HV1 := hide hv
            have HR2 := hide hr2
            have HV2 := hide hv2
            have HR3 := hide hr3
            have HV3 := hide hv3
            clear hr hv hr2 hv2 hr3 hv3
            go_wp2_with (first
              | (go_at_call 41; refine HGET.out.mono ?_; rintro e w7 ⟨v7, rfl, ho, S7, D7, h, -⟩; rw [HV1.out] at ho; rw [HR1.out]; obtain ⟨A7, c7, rfl, ha7⟩ := own_n (n := m) ho HLN.out; have HA7 := hide ha7; have H7 := hide h; clear h ho ha7 H6 HGET; unfold errR)
              | (go_at_call 14; refine (sameBytes_any A7 (cutA A cap x) c7 (cap - x) m m ((b.drop x).take m) ((b.drop x).take m) w7 HLN.out HLN.out (by omega) (by omega) HA7.out.reads (HRS.out _ H7.out.st.below)).mono ?_; rintro e w8 ⟨rfl, hq⟩; have H8 := hide (H7.out.grow (below_drew_c hq)); rw [decide_eq_true (rfl : (b.drop x).take m = (b.drop x).take m)]; clear hq H7 HA7)
              | (go_at_call 45; refine (HLIST.out _ _ _ _ _ H8.out (by omega)).mono ?_; rintro e w9 ⟨v9, rfl, hls, S9, D9, h, -⟩; rw [HV2.out] at hls; rw [HR2.out]; have hls : v9 = .slice none 0 0 := hls; subst hls; have H9 := hide h; clear h H8 HLIST; unfold errR errV)
              | (go_at_call 43; refine (HHEAD.out _ _ _ _ _ H9.out (by omega)).mono ?_; rintro e w11 ⟨rfl, S11, D11, h, -⟩; rw [HV3.out, HR3.out]; rw [HL.out]; have H11 := hide h; clear h H9 HHEAD; unfold errR)
              | fail)
            exact ⟨⟨j + 1, _, _, S11, D11, by omega, by simp, HQ3.out, H11.out.mono (by omega)⟩, by simp [intOf]; omega⟩
          · have HR1 := hide hr
            have HV1 := hide hv
            have HR2 := hide hr2
            have HV2 := hide hv2
            have HR3 := hide hr3
            have HV3 := hide hv3
            clear hr hv hr2 hv2 hr3 hv3
            go_wp2_with (first
              | (go_at_call 41; refine HGET.out.mono ?_; rintro e w7 ⟨v7, rfl, ho, S7, D7, h, -⟩; rw [HV1.out] at ho; rw [HR1.out]; obtain ⟨A7, c7, rfl, ha7⟩ := own_n (n := m) ho HLN.out; have HA7 := hide ha7; have H7 := hide h; clear h ho ha7 H6 HGET; unfold errR)
              | (go_at_call 14; refine (sameBytes_any A7 (cutA A cap x) c7 (cap - x) m m ((b.drop x).take m) ((b.drop x).take m) w7 HLN.out HLN.out (by omega) (by omega) HA7.out.reads (HRS.out _ H7.out.st.below)).mono ?_; rintro e w8 ⟨rfl, hq⟩; have H8 := hide (H7.out.grow (below_drew_c hq)); rw [decide_eq_true (rfl : (b.drop x).take m = (b.drop x).take m)]; clear hq H7 HA7)
              | (go_at_call 45; refine (HLIST.out _ _ _ _ _ H8.out (by omega)).mono ?_; rintro e w9 ⟨v9, rfl, hls, S9, D9, h, -⟩; rw [HV2.out] at hls; rw [HR2.out]; have hls : v9 = .slice none 0 0 := hls; subst hls; have H9 := hide h; clear h H8 HLIST; unfold errR errV)
              | (go_at_call 43; refine (HHEAD.out _ _ _ _ _ H9.out (by omega)).mono ?_; rintro e w11 ⟨rfl, S11, D11, h, -⟩; rw [HV3.out, HR3.out]; have H11 := hide h; clear h H9 HHEAD; unfold errR errV)
              | fail)
            exact ⟨⟨j + 1, _, _, S11, D11, by omega, by simp, HQ3.out, H11.out.mono (by omega)⟩, by simp [intOf]; omega⟩
          · have HR1 := hide hr
            have HV1 := hide hv
            have HR2 := hide hr2
            have HV2 := hide hv2
            have HR3 := hide hr3
            have HV3 := hide hv3
            have HT2 := hide ht2
            clear ht2
            clear hr hv hr2 hv2 hr3 hv3
            go_wp2_with (first
              | (go_at_call 41; refine HGET.out.mono ?_; rintro e w7 ⟨v7, rfl, ho, S7, D7, h, -⟩; rw [HV1.out] at ho; rw [HR1.out]; obtain ⟨A7, c7, rfl, ha7⟩ := own_n (n := 0) ho rfl; have HA7 := hide ha7; have H7 := hide h; clear h ho ha7 H6 HGET; unfold errR errV)
              | (go_at_call 35; refine (is_sent w7 p (HS.out.below H7.out.st.below) 10 (by omega) 111).mono ?_; rintro e w8 ⟨rfl, hb⟩; have H8 := hide (H7.out.grow hb); clear hb H7)
              | (go_at_call 45; refine (HLIST.out _ _ _ _ _ H8.out (by omega)).mono ?_; rintro e w9 ⟨v9, rfl, hls, S9, D9, h, -⟩; rw [HV2.out] at hls; rw [HR2.out]; obtain ⟨l9, hl9, ho9⟩ := hls; obtain rfl := St.under_one b HT2.out hl9; obtain ⟨A9, c9, rfl, hr9⟩ := own_t (n := 1) ho9 rfl; have HR9 := hide hr9; clear hl9 ho9 hr9; have H9 := hide h; clear h H8 HLIST; unfold errR)
              | (go_at_call 19; refine (sameTexts_any A9 (some ⟨w9.heap.size, 0, none⟩) c9 1 1 1 [[97]] [[97]] _ rfl rfl (by omega) (by omega) (HR9.out.below (balloc (Below.refl _ _) _) (Nat.le_refl _)) (ReadsT.made _ _ _ _ _ _ rfl rfl)).mono ?_; rintro e w10 ⟨rfl, hq⟩; have H10 := hide ((H9.out.grow (balloc (Below.refl _ _) _)).grow (below_drew_c hq)); rw [decide_eq_true rfl]; clear hq H9 HR9)
              | (go_at_call 43; refine (HHEAD.out _ _ _ _ _ H10.out (by omega)).mono ?_; rintro e w11 ⟨rfl, S11, D11, h, -⟩; rw [HV3.out, HR3.out]; rw [HL.out]; have H11 := hide h; clear h H10 HHEAD; unfold errR)
              | fail)
            exact ⟨⟨j + 1, _, _, S11, D11, by omega, by simp, HQ3.out, H11.out.mono (by omega)⟩, by simp [intOf]; omega⟩
          · have HR1 := hide hr
            have HV1 := hide hv
            have HR2 := hide hr2
            have HV2 := hide hv2
            have HR3 := hide hr3
            have HV3 := hide hv3
            have HT2 := hide ht2
            clear ht2
            clear hr hv hr2 hv2 hr3 hv3
            go_wp2_with (first
              | (go_at_call 41; refine HGET.out.mono ?_; rintro e w7 ⟨v7, rfl, ho, S7, D7, h, -⟩; rw [HV1.out] at ho; rw [HR1.out]; obtain ⟨A7, c7, rfl, ha7⟩ := own_n (n := 0) ho rfl; have HA7 := hide ha7; have H7 := hide h; clear h ho ha7 H6 HGET; unfold errR errV)
              | (go_at_call 35; refine (is_sent w7 p (HS.out.below H7.out.st.below) 10 (by omega) 111).mono ?_; rintro e w8 ⟨rfl, hb⟩; have H8 := hide (H7.out.grow hb); clear hb H7)
              | (go_at_call 45; refine (HLIST.out _ _ _ _ _ H8.out (by omega)).mono ?_; rintro e w9 ⟨v9, rfl, hls, S9, D9, h, -⟩; rw [HV2.out] at hls; rw [HR2.out]; obtain ⟨l9, hl9, ho9⟩ := hls; obtain rfl := St.under_one b HT2.out hl9; obtain ⟨A9, c9, rfl, hr9⟩ := own_t (n := 1) ho9 rfl; have HR9 := hide hr9; clear hl9 ho9 hr9; have H9 := hide h; clear h H8 HLIST; unfold errR)
              | (go_at_call 19; refine (sameTexts_any A9 (some ⟨w9.heap.size, 0, none⟩) c9 1 1 1 [[97]] [[97]] _ rfl rfl (by omega) (by omega) (HR9.out.below (balloc (Below.refl _ _) _) (Nat.le_refl _)) (ReadsT.made _ _ _ _ _ _ rfl rfl)).mono ?_; rintro e w10 ⟨rfl, hq⟩; have H10 := hide ((H9.out.grow (balloc (Below.refl _ _) _)).grow (below_drew_c hq)); rw [decide_eq_true rfl]; clear hq H9 HR9)
              | (go_at_call 43; refine (HHEAD.out _ _ _ _ _ H10.out (by omega)).mono ?_; rintro e w11 ⟨rfl, S11, D11, h, -⟩; rw [HV3.out, HR3.out]; have H11 := hide h; clear h H10 HHEAD; unfold errR errV)
              | fail)
            exact ⟨⟨j + 1, _, _, S11, D11, by omega, by simp, HQ3.out, H11.out.mono (by omega)⟩, by simp [intOf]; omega⟩
          · have HR1 := hide hr
            have HV1 := hide hv
            have HR2 := hide hr2
            have HV2 := hide hv2
            have HR3 := hide hr3
            have HV3 := hide hv3
            clear hr hv hr2 hv2 hr3 hv3
            go_wp2_with (first
              | (go_at_call 41; refine HGET.out.mono ?_; rintro e w7 ⟨v7, rfl, ho, S7, D7, h, -⟩; rw [HV1.out] at ho; rw [HR1.out]; obtain ⟨A7, c7, rfl, ha7⟩ := own_n (n := 0) ho rfl; have HA7 := hide ha7; have H7 := hide h; clear h ho ha7 H6 HGET; unfold errR errV)
              | (go_at_call 35; refine (is_sent w7 p (HS.out.below H7.out.st.below) 10 (by omega) 111).mono ?_; rintro e w8 ⟨rfl, hb⟩; have H8 := hide (H7.out.grow hb); clear hb H7)
              | (go_at_call 45; refine (HLIST.out _ _ _ _ _ H8.out (by omega)).mono ?_; rintro e w9 ⟨v9, rfl, hls, S9, D9, h, -⟩; rw [HV2.out] at hls; rw [HR2.out]; have hls : v9 = .slice none 0 0 := hls; subst hls; have H9 := hide h; clear h H8 HLIST; unfold errR errV)
              | (go_at_call 43; refine (HHEAD.out _ _ _ _ _ H9.out (by omega)).mono ?_; rintro e w11 ⟨rfl, S11, D11, h, -⟩; rw [HV3.out, HR3.out]; rw [HL.out]; have H11 := hide h; clear h H9 HHEAD; unfold errR)
              | fail)
            exact ⟨⟨j + 1, _, _, S11, D11, by omega, by simp, HQ3.out, H11.out.mono (by omega)⟩, by simp [intOf]; omega⟩
          · have HR1 := hide hr
            have HV1 := hide hv
            have HR2 := hide hr2
            have HV2 := hide hv2
            have HR3 := hide hr3
            have HV3 := hide hv3
            clear hr hv hr2 hv2 hr3 hv3
            go_wp2_with (first
              | (go_at_call 41; refine HGET.out.mono ?_; rintro e w7 ⟨v7, rfl, ho, S7, D7, h, -⟩; rw [HV1.out] at ho; rw [HR1.out]; obtain ⟨A7, c7, rfl, ha7⟩ := own_n (n := 0) ho rfl; have HA7 := hide ha7; have H7 := hide h; clear h ho ha7 H6 HGET; unfold errR errV)
              | (go_at_call 35; refine (is_sent w7 p (HS.out.below H7.out.st.below) 10 (by omega) 111).mono ?_; rintro e w8 ⟨rfl, hb⟩; have H8 := hide (H7.out.grow hb); clear hb H7)
              | (go_at_call 45; refine (HLIST.out _ _ _ _ _ H8.out (by omega)).mono ?_; rintro e w9 ⟨v9, rfl, hls, S9, D9, h, -⟩; rw [HV2.out] at hls; rw [HR2.out]; have hls : v9 = .slice none 0 0 := hls; subst hls; have H9 := hide h; clear h H8 HLIST; unfold errR errV)
              | (go_at_call 43; refine (HHEAD.out _ _ _ _ _ H9.out (by omega)).mono ?_; rintro e w11 ⟨rfl, S11, D11, h, -⟩; rw [HV3.out, HR3.out]; have H11 := hide h; clear h H9 HHEAD; unfold errR errV)
              | fail)
            exact ⟨⟨j + 1, _, _, S11, D11, by omega, by simp, HQ3.out, H11.out.mono (by omega)⟩, by simp [intOf]; omega⟩
        · obtain rfl : j = 8 := by omega
          have HNL : Hid (∀ l, St.ListsI s5.ups l → l = []) := hide (fun l hl => by
            rcases l with _ | ⟨u, l⟩
            · rfl
            · exact absurd (HQ6.out.ups u) ((hl.2 u).1 (by simp)))
          go_wp2_with (first
            | (go_at_call 9; refine (StS.names H6.out.st (by omega)).mono ?_; rintro e w7 ⟨v7, l7, rfl, hl7, ho7, hb⟩; obtain rfl := St.list_one b HQ6.out hl7; obtain ⟨A7, c7, rfl, hr7⟩ := own_t (n := 1) ho7 rfl; have HR7 := hide hr7; have H7 := hide (H6.out.grow hb); clear hl7 ho7 hb hr7 H6)
            | (go_at_call 19; refine (sameTexts_any A7 (some ⟨w7.heap.size, 0, none⟩) c7 1 1 1 [[97]] [[97]] _ rfl rfl (by omega) (by omega) (HR7.out.below (balloc (Below.refl _ _) _) (Nat.le_refl _)) (ReadsT.made _ _ _ _ _ _ rfl rfl)).mono ?_; rintro e w8 ⟨rfl, hq⟩; have H8 := hide ((H7.out.grow (balloc (Below.refl _ _) _)).grow (below_drew_c hq)); rw [decide_eq_true rfl]; clear hq H7 HR7)
            | (go_at_call 62; refine (StS.openOf H8.out.st (by omega)).mono ?_; rintro e w9 ⟨v9, l9, rfl, hl9, ho9, hb⟩; obtain rfl := HNL.out l9 hl9; obtain ⟨A9, c9, rfl⟩ := own_z0 ho9; have H9 := hide (H8.out.grow hb); clear hl9 ho9 hb H8)
            | fail)
          go_ret
          exact ⟨rfl, H9.out.st.below⟩
    · go_enter Tryz.func5, Tryz.ntmps5
      go_wp2_with (first
        | (go_at_call 37; refine HF.out.mono ?_; rintro e w1 ⟨rfl, hb⟩; have HB1 := hide hb; clear hb)
        | fail)
      go_ret
      exact ⟨rfl, HB1.out⟩
  · go_enter Tryz.func5, Tryz.ntmps5
    go_wp2_with (first
      | (go_at_call 37; refine HF.out.mono ?_; rintro e w1 ⟨rfl, hb⟩; have HB1 := hide hb; clear hb)
      | fail)
    go_ret
    exact ⟨rfl, HB1.out⟩
end Go.Proofs.YtlflijhnlcdakaaGreatDoor

namespace Go.Proofs.YtlflijhnlcdakaaGreatDoor.CallReadsLaw
open Go.Proofs.YtlflijhnlcdakaaGreatDoor
open Go.RowKit Go.ChangeShapes Go.WideShapes Go.ChangeAt

set_option maxRecDepth 100000 in
theorem lifted (os : Os) (started : os.Started) (H : Type) (enc : TypeId × Value → H) :
    ReturnsInHanded {} Tryz.checked os 5 .any (fun w args => (Rows.callReadsSpec.pre enc Tryz.prog Tryz.f5 [] false w args ∧ laidMetH Tryz.prog laidAll w) ∧ sizedMet enc Tryz.prog Tryz.f5 (OpenSpec.ofChange Rows.callReadsSpec) false w args)
      (Rows.callReadsSpec.post enc Tryz.prog Tryz.f5 false true false false) := by
  refine returnsInHanded_of_change_and (C := Tryz.checked) (X := fun w _ => laidMetH Tryz.prog laidAll w) (fun _ _ _ hh h => h.of_heap hh) own started (by kernel_rfl) Tryz.func5
    (ChangeSpec.witness_shaped (enc := enc) (C := Tryz.checked) (os := os) (X := fun w _ => laidMetH Tryz.prog laidAll w) false (World.doorLaid Tryz.prog 400 os) #[.slice none 0 0, .slice none 0 0, .int .i64 0, .int .i64 0] 8 rfl (World.shaped_of_RefB (by kernel_rfl) (by kernel_rfl)) (by kernel_rfl) (by kernel_rfl) (by kernel_rfl) (door_met_all os _)) ?_
  intro W base args ds gs before hval0 hW _ _ hL _
  have hval : ∀ (j : Nat) t v, Tryz.f5.params[j]? = some t → args[j]? = some v → Value.okWide Tryz.prog W .any base t v := hval0
  have hW' := hW
  obtain ⟨p, q, hA0, hV, rfl, hfz, hnd⟩ := hW
  have hA : DataW.TrodAll enc Tryz.prog W 0 (fun _ => true) true Tryz.f5.params.toList args.toList ds p := hA0
  rw [Tryz.params5] at hA hval
  obtain ⟨v0, vs0, d0, ds0, p0, q0, hargs, rfl, rfl, h0, r0⟩ := trodAll_cons hA
  obtain ⟨v1, vs1, d1, ds1, p1, q1, rfl, rfl, rfl, h1, r1⟩ := trodAll_cons r0
  obtain ⟨v2, vs2, d2, ds2, p2, q2, rfl, rfl, rfl, h2, r2⟩ := trodAll_cons r1
  obtain ⟨v3, vs3, d3, ds3, p3, q3, rfl, rfl, rfl, h3, r3⟩ := trodAll_cons r2
  obtain ⟨rfl, rfl, rfl⟩ := trodAll_nil r3
  obtain rfl : args = #[v0, v1, v2, v3] := by cases args; simp_all
  obtain ⟨rfl, rfl⟩ := trodVars_none hV
  obtain ⟨a0, len0, cap0, rfl⟩ := okWide_slice Tryz.underlying32 (hval 0 32 v0 rfl rfl)
  have k0 := h0
  have lt0 : ∀ x ∈ p0, x.block < W.heap.size := by obtain ⟨m, hm⟩ := k0; exact DataW.trod_lt m _ _ _ hm
  obtain ⟨l0, rfl, w0⟩ := arg_of h0
  obtain ⟨a1, len1, cap1, rfl⟩ := okWide_slice Tryz.underlying29 (hval 1 29 v1 rfl rfl)
  have k1 := h1
  have lt1 : ∀ x ∈ p1, x.block < W.heap.size := by obtain ⟨m, hm⟩ := k1; exact DataW.trod_lt m _ _ _ hm
  obtain ⟨zs1, rfl, le1, mx1, w1, z1⟩ := ints_of h1
  obtain ⟨a2, rfl, rfl, rfl, w2⟩ := open_int Tryz.underlying3 (hval 2 3 v2 rfl rfl) h2
  have hb2 := bounds_i64 w2
  obtain ⟨a3, rfl, rfl, rfl, w3⟩ := open_int Tryz.underlying3 (hval 3 3 v3 rfl rfl) h3
  have hb3 := bounds_i64 w3
  clear hA0 hval0
  have htab := tabs_of_all hL
  obtain ⟨ps, hsent⟩ := sents_of_laid hL
  have hsz := htab.size
  refine (callReads_walk W ps hsent htab a0 cap0 _ l0 w0 rfl a1 cap1 _ zs1 (intsArg_of le1 mx1 w1 z1 (intsCap_of h1)) rfl a2 a3 hb2.1 hb2.2 hb3.1 hb3.2).mono fun e W' ⟨he, bel⟩ => ?_
  subst he
  exact ⟨_, rfl, _, _, _, [], _, [], hW', trodAll_mk1 (shut_bool Tryz.underlying4 _), (trodAll_cons_mk (Below.trod laidOut (by kernel_rfl) (of_decide_eq_true (by kernel_rfl)) k0 bel lt0) (trodAll_cons_mk (Below.trod laidOut (by kernel_rfl) (of_decide_eq_true (by kernel_rfl)) k1 bel lt1) (trodAll_cons_mk (shut_int Tryz.underlying3 w2) (trodAll_cons_mk (shut_int Tryz.underlying3 w3) trodAll_mk0)))), rfl, bel.frame _, fun h => by cases h⟩

theorem row : Rows.CallReadsSaid :=
  OpenClaim.holds_of_wide 5 Tryz.f5 rfl rfl rfl rfl rfl rfl rfl ⟨rfl, rfl, rfl, rfl, rfl⟩ rfl rfl rfl rfl rfl (by kernel_rfl) Tryz.func5 (by kernel_rfl)
    (of_decide_eq_true (by kernel_rfl)) (by unfold Func.isWrapper; first | (rw [if_pos (by decide +kernel)]; kernel_rfl) | (rw [if_neg (by decide +kernel)]; exact ⟨rfl, rfl⟩))
    (fun os started H enc _ => lifted os started H enc)

theorem proved : Rows.CallReadsCardSaid :=
  Claim7.holds_tied_plain_at .later [] _ true _ true
    row (fun _ h => by cases h) (by kernel_rfl) (fun _ h => by cases h) callReads_row_tie rfl ⟨rfl, rfl⟩ (by kernel_rfl) rfl
    (fun f fn hf hfn => by
      obtain rfl : f = 5 := Option.some.inj ((show Tryz.prog.funcNamed "cordwood/cordwoodlaw12.CallReads" = some 5 by kernel_rfl).symm.trans hf) |>.symm
      obtain rfl : fn = Tryz.f5 := (Option.some.inj (Tryz.func5.symm.trans hfn)).symm
      exact ⟨by kernel_rfl, fun j t ht => by
        rw [Tryz.params5] at ht
        have hm : t ∈ [32, 29, 3, 3] := by simpa using Array.mem_of_getElem? ht
        have hall : ([32, 29, 3, 3].all fun u => !Tryz.prog.wantsStandIn u) = true := by kernel_rfl
        exact (show Tryz.prog.wantsStandIn t = false by simpa using List.all_eq_true.1 hall t hm)⟩)
    (by kernel_rfl)
end Go.Proofs.YtlflijhnlcdakaaGreatDoor.CallReadsLaw
