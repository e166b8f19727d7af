/-
  EpochSpans, walked.
  EpochSpans: P9.2, P9.3, for every argument: a span of a lineage is part of it, and of none that was cut ahead of its end; two spans that meet are one span. Conditions: none but those of the given row.
-/
import Derived.Test.YtplpakdbahlgaaaDoorE8
import Derived.Test.YtplpakdbahlgaaaDoorE3
import Derived.Deep.CutRange
import Derived.Deep.CutBlock
import Derived.Test.YtplpakdbahlgaaaDoorE5
namespace Go.Proofs.YtplpakdbahlgaaaDoor
open Go.RowKit

instance sents4_three (w : World) (p : Nat → Addr) : Coe (SentsOn (fun j => j = 2 ∨ j = 3 ∨ j = 4 ∨ j = 13) w p) (SentsOn (fun j => j = 2 ∨ j = 3 ∨ j = 4) w p) := ⟨fun h => h.mono fun j hj => by omega⟩

set_option maxRecDepth 100000 in
set_option maxHeartbeats 4000000 in
theorem spans_any (w : World) (p : Nat → Addr) (hs4 : Sents4B w p) (A : Option Addr) (cap n : Nat) (l : List Ep.Pr) (f0 m0 t0 h0 : Int) (hn : l.length = n) (ha : ArgP w A cap l) (hF : -9223372036854775808 ≤ f0 ∧ f0 ≤ 9223372036854775807) (hM : -9223372036854775808 ≤ m0 ∧ m0 ≤ 9223372036854775807) (hT : -9223372036854775808 ≤ t0 ∧ t0 ≤ 9223372036854775807) (hH : -9223372036854775808 ≤ h0 ∧ h0 ≤ 9223372036854775807) :
    Calls Tryd.prog 5 #[.slice A n cap, .int .i64 f0, .int .i64 m0, .int .i64 t0, .int .i64 h0] w fun r w' => r = .returned (.bool true) ∧ Below w.heap.size w w' := by
  have hs : Sents3 w p := hs4
  have HF := hide (first9_any w p hs)
  have hle : n ≤ cap := hn ▸ ha.at_.le
  cases hb : Ep.bad l with
  | some j =>
    have HN := hide (fun V (hbv : Below w.heap.size w V) => epNew_bad A cap n j l V p hn (hs.below hbv) (ha.below hbv).at_ ha.nil hb)
    have k1 := fun W => neq_nilD (p j) W
    unfold errV at *
    clear hs hs4 ha hb hn hF hM hT hH
    by_cases h20 : 30 < n
    · have d0 : decide ((30 : Int) < n) = true := decide_eq_true (by omega)
      go_enter Tryd.func5, Tryd.ntmps5
      go_wp2_with (first
        | (go_at_call 10; refine HF.out.mono ?_; rintro e w2 ⟨rfl, hb2⟩; have HB2 := hide hb2; clear hb2)
        | (go_at_call 11; refine (HN.out _ HB2.out).mono ?_; rintro e w3 ⟨rfl, hb3⟩; have HB3 := hide (HB2.out.trans (hb3.mono HB2.out.size)); clear hb3)
        | fail)
      go_ret
      exact ⟨rfl, HB3.out⟩
    · have d0 : decide ((30 : Int) < n) = false := decide_eq_false (by omega)
      go_enter Tryd.func5, Tryd.ntmps5
      go_wp2_with (first
        | (go_at_call 10; refine HF.out.mono ?_; rintro e w2 ⟨rfl, hb2⟩; have HB2 := hide hb2; clear hb2)
        | (go_at_call 11; refine (HN.out _ HB2.out).mono ?_; rintro e w3 ⟨rfl, hb3⟩; have HB3 := hide (HB2.out.trans (hb3.mono HB2.out.size)); clear hb3)
        | fail)
      go_ret
      exact ⟨rfl, HB3.out⟩
  | none =>
    have hok := Ep.bad_none.1 hb
    have HN := hide (fun V (hbv : Below w.heap.size w V) => epNew_ok A cap n l V p hn (hs.below hbv) (ha.below hbv).at_ ha.nil hok)
    by_cases h20 : 30 < n
    · clear hs hs4 ha hb hn hok hF hM hT hH
      have d0 : decide ((30 : Int) < n) = true := decide_eq_true (by omega)
      go_enter Tryd.func5, Tryd.ntmps5
      go_wp2_with (first
        | (go_at_call 10; refine HF.out.mono ?_; rintro e w2 ⟨rfl, hb2⟩; have HB2 := hide hb2; clear hb2)
        | (go_at_call 11; refine (HN.out _ HB2.out).mono ?_; rintro e w3 ⟨X, rfl, -, hb3⟩; have HB3 := hide (HB2.out.trans (hb3.mono HB2.out.size)); clear hb3)
        | fail)
      go_ret
      exact ⟨rfl, HB3.out⟩
    · have d0 : decide ((30 : Int) < n) = false := decide_eq_false (by omega)
      have hn30 : n ≤ 30 := by omega
      have HOK := hide hok
      have HLN := hide hn
      have HS4 := hide hs4
      have HS3 := hide hs
      have HLF := hide (fun V => long_ix f0 549755813888 V (by omega) (by omega) hF.1 hF.2)
      have HLM := hide (fun V => long_ix m0 1048576 V (by omega) (by omega) hM.1 hM.2)
      have HLT := hide (fun V => long_ix t0 1048576 V (by omega) (by omega) hT.1 hT.2)
      have HLH := hide (fun V => long_ix h0 100 V (by omega) (by omega) hH.1 hH.2)
      have f1 := Int.emod_nonneg f0 (show (549755813888 : Int) ≠ 0 by omega)
      have f2 := Int.emod_lt_of_pos f0 (show (0 : Int) < 549755813888 by omega)
      have m1 := Int.emod_nonneg m0 (show (1048576 : Int) ≠ 0 by omega)
      have m2 := Int.emod_lt_of_pos m0 (show (0 : Int) < 1048576 by omega)
      have t1 := Int.emod_nonneg t0 (show (1048576 : Int) ≠ 0 by omega)
      have t2 := Int.emod_lt_of_pos t0 (show (0 : Int) < 1048576 by omega)
      have q1 := Int.emod_nonneg h0 (show (100 : Int) ≠ 0 by omega)
      have q2 := Int.emod_lt_of_pos h0 (show (0 : Int) < 100 by omega)
      generalize f0 % 549755813888 = f at *
      generalize m0 % 1048576 = mm at *
      generalize t0 % 1048576 = tt at *
      generalize h0 % 100 = hh at *
      obtain ⟨m, hm⟩ : ∃ m, m = f + mm + 1 := ⟨_, rfl⟩
      obtain ⟨t, ht⟩ : ∃ t, t = m + tt + 1 := ⟨_, rfl⟩
      have wm0 : IntKind.i64.wrap (f + mm) = f + mm := by rw [IntKind.wrap_i64]; omega
      have wm1 : IntKind.i64.wrap (f + mm + 1) = m := by rw [IntKind.wrap_i64]; omega
      have wt0 : IntKind.i64.wrap (m + tt) = m + tt := by rw [IntKind.wrap_i64]; omega
      have wt1 : IntKind.i64.wrap (m + tt + 1) = t := by rw [IntKind.wrap_i64]; omega
      have wh : IntKind.i64.wrap (t + hh) = t + hh := by rw [IntKind.wrap_i64]; omega
      have wt2 : IntKind.i64.wrap (t - 1) = t - 1 := by rw [IntKind.wrap_i64]; omega
      have hfm : f < m := by omega
      have hmt : m < t := by omega
      have HR := hide (And.intro hfm (And.intro hmt (And.intro (show 0 ≤ f ∧ f ≤ 1099511627776 by omega) (And.intro (show 1 ≤ t ∧ t ≤ 1099511627776 by omega) (And.intro q1 q2)))))
      have hj := Ep.span_join hok f m t hfm hmt
      have hlc : (Ep.span l f t).length ≤ 30 := by rw [Ep.span_len f t (by omega)]; have := Ep.ahead_le l t; omega
      have hla : (Ep.span l f m).length ≤ 30 := by rw [Ep.span_len f m hfm]; have := Ep.ahead_le l m; omega
      have hlb : (Ep.span l m t).length ≤ 30 := by rw [Ep.span_len m t hmt]; have := Ep.ahead_le l t; omega
      have HJ := hide hj
      obtain ⟨sa, hsa⟩ : ∃ s, s = Ep.span l f m := ⟨_, rfl⟩
      obtain ⟨sb, hsb⟩ : ∃ s, s = Ep.span l m t := ⟨_, rfl⟩
      obtain ⟨sc, hsc⟩ : ∃ s, s = Ep.span l f t := ⟨_, rfl⟩
      have HSC := hide hsc
      obtain ⟨na, hna⟩ : ∃ k, sa.length = k := ⟨_, rfl⟩
      obtain ⟨nb, hnb⟩ : ∃ k, sb.length = k := ⟨_, rfl⟩
      obtain ⟨nc, hnc⟩ : ∃ k, sc.length = k := ⟨_, rfl⟩
      have HSA : Hid (∀ V X R, Lns w [(X, l)] R V → Calls Tryd.prog 32 #[.pointer (some ⟨X, 0, none⟩), .int .i64 f, .int .i64 m] V fun e w' => ∃ A c, e = .returned (.slice A na c) ∧ (A = none → sa = [] ∧ c = 0) ∧ Lns w [(X, l)] (R ++ [(A, c, sa)]) w') := hide fun V X R hV => by
        have := hV.span (i := 0) rfl f m
        rw [← hsa, hna] at this
        exact this.mono fun e w' ⟨A, c, h1, h2, h3, _⟩ => ⟨A, c, h1, h2, h3⟩
      have HSB : Hid (∀ V X R, Lns w [(X, l)] R V → Calls Tryd.prog 32 #[.pointer (some ⟨X, 0, none⟩), .int .i64 m, .int .i64 t] V fun e w' => ∃ A c, e = .returned (.slice A nb c) ∧ (A = none → sb = [] ∧ c = 0) ∧ Lns w [(X, l)] (R ++ [(A, c, sb)]) w') := hide fun V X R hV => by
        have := hV.span (i := 0) rfl m t
        rw [← hsb, hnb] at this
        exact this.mono fun e w' ⟨A, c, h1, h2, h3, _⟩ => ⟨A, c, h1, h2, h3⟩
      have HSCC : Hid (∀ V X R, Lns w [(X, l)] R V → Calls Tryd.prog 32 #[.pointer (some ⟨X, 0, none⟩), .int .i64 f, .int .i64 t] V fun e w' => ∃ A c, e = .returned (.slice A nc c) ∧ (A = none → sc = [] ∧ c = 0) ∧ Lns w [(X, l)] (R ++ [(A, c, sc)]) w') := hide fun V X R hV => by
        have := hV.span (i := 0) rfl f t
        rw [← hsc, hnc] at this
        exact this.mono fun e w' ⟨A, c, h1, h2, h3, _⟩ => ⟨A, c, h1, h2, h3⟩
      rw [← hsa, ← hsb, ← hsc] at HJ
      rw [← hsa, hna] at hla
      rw [← hsb, hnb] at hlb
      rw [← hsc, hnc] at hlc
      have HNA := hide hna
      have HNB := hide hnb
      have HNC := hide hnc
      have HT := hide ht
      clear hs hs4 ha hb hn hok hF hM hT hH h20 hj hsa hsb hsc hna hnb hnc f1 f2 m1 m2 t1 t2 q1 q2 hfm hmt ht hm
      go_enter Tryd.func5, Tryd.ntmps5
      go_upto_region 13 with (first
        | (go_at_call 10; refine HF.out.mono ?_; rintro e w2 ⟨rfl, hb2⟩; have HB2 := hide hb2; clear hb2)
        | (go_at_call 11; refine (HN.out _ HB2.out).mono ?_; rintro e w3 ⟨X, rfl, hx, hb3⟩; have I3 : Hid (Lns w [(X, l)] [] w3) := hide ((Lns.nil HB2.out).add hb3 hx HOK.out); clear hb3 hx)
        | (go_at_call 31; have _t := LA2; refine (HLT.out _).mono ?_; rintro e w6 ⟨rfl, e⟩; subst e; have LA3 := hide True.intro)
        | (go_at_call 31; have _t := LA1; refine (HLM.out _).mono ?_; rintro e w5 ⟨rfl, e⟩; subst e; have LA2 := hide True.intro)
        | (go_at_call 31; refine (HLF.out _).mono ?_; rintro e w4 ⟨rfl, e⟩; subst e; have LA1 := hide True.intro)
        | (go_at_call 32; have _t := I5; refine (HSCC.out _ _ _ I5.out).mono ?_; rintro e w6 ⟨Ac, cc, rfl, h0c, h6⟩; have I6 : Hid (Lns w [(X, l)] [(Aa, ca, sa), (Ab, cb, sb), (Ac, cc, sc)] w6) := hide h6; clear h6 h0c I5)
        | (go_at_call 32; have _t := I4; refine (HSB.out _ _ _ I4.out).mono ?_; rintro e w5 ⟨Ab, cb, rfl, h0b, h5⟩; have I5 := hide h5; have H0B := hide h0b; clear h5 I4 h0b)
        | (go_at_call 32; refine (HSA.out _ _ _ I3.out).mono ?_; rintro e w4 ⟨Aa, ca, rfl, h0a, h4⟩; have I4 := hide h4; clear h4 I3 h0a)
        | fail)
      go_cut [87] from 66 (fun bv wx => ∃ c0 : Bool, bv = .bool c0 ∧ (c0 = true → sa ++ sb.drop 1 = sc ∧ 1 ≤ nb) ∧ (c0 = false → sa ++ sb = sc) ∧ Lns w [(X, l)] [(Aa, ca, sa), (Ab, cb, sb), (Ac, cc, sc)] wx)
      case first =>
        have hpa : PrAt w6 Aa ca sa := I6.out.row 0 rfl
        have hpb : PrAt w6 Ab cb sb := I6.out.row 1 rfl
        have HPB := hide hpb
        have hlea : na ≤ ca := HNA.out ▸ hpa.le
        have hleb : nb ≤ cb := HNB.out ▸ hpb.le
        rcases Nat.eq_zero_or_pos na with k0 | k0
        · have d1 : decide ((0 : Int) < na) = false := decide_eq_false (by omega)
          have d1n : decide (0 < na) = false := decide_eq_false (by omega)
          have HE := hide (HJ.out.2 (fun k => by have := HNA.out; omega))
          clear hpa hpb k0
          go_wp2_with fail
          go_quiet (fail)
          go_wp2_with fail
          go_meet
          exact ⟨false, rfl, fun h => (by cases h), fun _ => HE.out, I6.out.below (below_drewN (Below.refl _ _) _)⟩
        · have d1 : decide ((0 : Int) < na) = true := decide_eq_true (by omega)
          have d1n : decide (0 < na) = true := decide_eq_true k0
          rcases Nat.eq_zero_or_pos nb with k1 | k1
          · have d2 : decide ((0 : Int) < nb) = false := decide_eq_false (by omega)
            have d2n : decide (0 < nb) = false := decide_eq_false (by omega)
            have HE := hide (HJ.out.2 (fun k => by have := HNB.out; omega))
            clear hpa hpb k0 k1
            go_wp2_with fail
            go_quiet (fail)
            go_wp2_with fail
            go_meet
            exact ⟨false, rfl, fun h => (by cases h), fun _ => HE.out, I6.out.below (below_drewN (Below.refl _ _) _)⟩
          · have d2 : decide ((0 : Int) < nb) = true := decide_eq_true (by omega)
            have d2n : decide (0 < nb) = true := decide_eq_true k1
            obtain ⟨ma, rfl⟩ : ∃ ma, na = ma + 1 := ⟨na - 1, by omega⟩
            obtain ⟨ga, fa, rfl, -, ya, -⟩ := hpa.at_ ma (by rw [HNA.out]; omega)
            obtain ⟨gb, fb, rfl, -, yb, -⟩ := hpb.at_ 0 (by rw [HNB.out]; exact k1)
            rw [Nat.zero_mul, Nat.add_zero] at yb
            have d1m : decide ((0 : Int) < (ma : Int) + 1) = true := decide_eq_true (by omega)
            have d1k : decide (0 < ma + 1) = true := decide_eq_true (by omega)
            have hwa : IntKind.i64.wrap (ma : Int) = (ma : Int) := by rw [IntKind.wrap_i64]; omega
            have hwa2 : IntKind.i64.wrap ((ma : Int) + 1 - 1) = (ma : Int) := by rw [IntKind.wrap_i64]; omega
            have hla2 : ma < ma + 1 := Nat.lt_succ_self ma
            have HX : Hid ((Ep.pr sa (sa.length - 1)).ep = (Ep.pr sa ma).ep) := hide (by rw [HNA.out]; rfl)
            by_cases he : (Ep.pr sa ma).ep = (Ep.pr sb 0).ep
            · have HE := hide (HJ.out.1 ⟨by rw [HNA.out]; exact k0, by rw [HNB.out]; exact k1, by rw [HX.out]; exact he⟩)
              rw [he] at ya
              generalize (Ep.pr sb 0).ep = pe at *
              have b1 : (pe == pe) = true := by rw [beq_iff_eq]
              have hnb1 : 1 ≤ nb := k1
              clear hpa hpb k0 k1 he
              go_wp2_with fail
              go_quiet (fail)
              go_wp2_with fail
              go_meet
              exact ⟨true, rfl, fun _ => ⟨HE.out, hnb1⟩, fun h => (by cases h), I6.out.below (below_drewN (Below.refl _ _) _)⟩
            · have HE := hide (HJ.out.2 (fun k => he (by rw [← HX.out]; exact k.2.2)))
              have b1 : ((Ep.pr sa ma).ep == (Ep.pr sb 0).ep) = false := by rw [beq_eq_false_iff_ne]; exact he
              generalize (Ep.pr sb 0).ep = pe at *
              generalize (Ep.pr sa ma).ep = pf at *
              clear hpa hpb k0 he
              go_wp2_with fail
              go_quiet (fail)
              go_wp2_with fail
              go_meet
              exact ⟨false, rfl, fun h => (by cases h), fun _ => HE.out, I6.out.below (below_drewN (Below.refl _ _) _)⟩
      case rest =>
        obtain ⟨c0, rfl, hc1, hc0, hI⟩ := hcut
        have J := hide hI
        have HC1 := hide hc1
        have HC0 := hide hc0
        have hpb : PrAt wc Ab cb sb := hI.row 1 rfl
        have HPB := hide hpb
        have hleb : nb ≤ cb := HNB.out ▸ hpb.le
        clear hI hc1 hc0 hpb I6
        go_upto_if 87 with fail
        go_cut [15] from 88 (fun bv wx => ∃ (B : Option Addr) (cB : Nat) (s : List Ep.Pr), bv = .slice B s.length cB ∧ sa ++ s = sc ∧ s.length ≤ 30 ∧ (B = none → s = []) ∧ PrAt wx B cB s ∧ Lns w [(X, l)] [(Aa, ca, sa), (Ab, cb, sb), (Ac, cc, sc)] wx)
        case first =>
          cases c0 with
          | false =>
            have HE0 := hide (HC0.out rfl)
            clear HC1 HC0
            go_wp2_with fail
            go_meet
            exact ⟨_, _, sb, by rw [HNB.out], HE0.out, by rw [HNB.out]; exact hlb, fun e => (H0B.out e).1, HPB.out, J.out⟩
          | true =>
            obtain ⟨hE, hnb1⟩ := HC1.out rfl
            have HE := hide hE
            obtain ⟨gb, fb, eb, -, -, -⟩ := HPB.out.at_ 0 (by rw [HNB.out]; omega)
            subst eb
            have HLD : Hid ((sb.drop 1).length = nb - 1) := hide (by rw [List.length_drop, HNB.out])
            have hcb1 : 1 ≤ cb := by omega
            clear hE HC1 HC0
            by_cases hc1 : cb = 1
            · subst hc1
              have hz : (sb.drop 1).length = 0 := by rw [HLD.out]; omega
              have HZ := hide (List.eq_nil_of_length_eq_zero hz)
              clear hz
              go_wp2_with fail
              go_meet
              exact ⟨some ⟨gb, fb, none⟩, 0, [], rfl, (by have := HE.out; rwa [HZ.out] at this), by simp, fun e => (by cases e), PrAt.nil _ _ _ (by omega), J.out⟩
            · have HP1 : Hid (PrAt wc (some ⟨gb, fb + 2, none⟩) (cb - 1) (sb.drop 1)) := hide (by
                have := HPB.out.piece 1 sb.length (by rw [HNB.out]; omega) (Nat.le_refl _)
                rw [List.take_length] at this
                exact this)
              go_wp2_with fail
              go_meet
              exact ⟨_, _, sb.drop 1, by rw [HLD.out], HE.out, by rw [HLD.out]; omega, fun e => (by cases e), HP1.out, J.out⟩
        case rest =>
          obtain ⟨B, cB, s, rfl, hE, hsl, hB0, hPB, hI⟩ := hcut
          have K := hide hI
          have HE := hide hE
          have HB0 := hide hB0
          have HPS := hide hPB
          obtain ⟨ns, hns⟩ : ∃ k, s.length = k := ⟨_, rfl⟩
          have HNS := hide hns
          rw [hns] at hsl
          rw [hns]
          clear hI hE hB0 hPB hns J HPB HC1 HC0
          have HRP := hide (fun V (hV : Lns w [(X, l)] [(Aa, ca, sa), (Ab, cb, sb), (Ac, cc, sc)] V) => hV.refPairs (j := 0) rfl HNA.out (by omega))
          go_upto_region 17 with (first
            | (go_at_call 14; refine (HRP.out _ K.out).mono ?_; rintro e w7 ⟨v7, rfl, ho7, h7, hb7⟩; obtain ⟨A7, n7, c7, e7⟩ := own_slice ho7; subst e7; have HO7 := hide ho7; have K7 := hide h7; have HB7 := hide hb7; clear ho7 h7 hb7)
            | (at_builtin; refine wpList_appP (w := w7) rfl (.tmp 91) (.tmp 92) rfl wc.heap.size _ sa s rfl HO7.out B ns cB rfl HNS.out (HPS.out.below HB7.out) HB0.out (by rw [HNA.out]; omega) HB7.out.size ?_; intro v8 w8 ho8 hg8 hv8)
            | (go_at_call 23; have hb8 : Below wc.heap.size wc w8 := HB7.out.grown hg8 HB7.out.size (fun g hg => (World.ownsRow.lt HO7.out g hg).1); have K8 := hide (K.out.below hb8); rw [HE.out] at ho8; obtain ⟨A8, c8, e8, hp8, -, -⟩ := pairs_at ho8; subst e8; rw [HNC.out]; refine (K8.out.same (j := 2) rfl hp8 HNC.out (by omega)).mono ?_; rintro e w9 ⟨rfl, h9⟩; have K9 := hide h9; clear h9 ho8 hg8 hv8 hp8 hb8)
            | fail)
          have hK := K9.out.rows (R' := [(Ac, cc, sc)]) (fun r hr => by simp at hr; rw [hr]; simp)
          have M := hide hK
          clear hK K9 K8 K7 HRP HB7 HO7 HPS HNS K HE HB0 hsl
          have hlec : nc ≤ cc := HNC.out ▸ (M.out.row 0 rfl).le
          rcases Nat.eq_zero_or_pos nc with k0 | k0
          · have e0 : ((nc : Int) == 0) = true := by rw [beq_iff_eq]; omega
            have HH := hide (M.out.has (i := 0) (j := 0) p HS3.out rfl rfl HNC.out t t)
            rw [show sc = [] from List.eq_nil_of_length_eq_zero (HNC.out.trans k0), Ep.has_nil] at HH
            clear k0
            go_wp2_with (first
              | (go_at_call 33; refine HH.out.mono ?_; rintro e w10 ⟨rfl, h10⟩; have M10 := hide h10.bel; clear h10)
              | fail)
            go_ret
            exact ⟨rfl, M10.out⟩
          · have e0 : ((nc : Int) == 0) = false := by rw [beq_eq_false_iff_ne]; omega
            obtain ⟨hfm, hmt2, hf, ht1, hq⟩ := HR.out
            have hsc : 0 < (Ep.span l f t).length := by rw [← HSC.out, HNC.out]; exact k0
            have hh1 := Ep.has_span HOK.out f t (t + hh) hf.2 (by omega) hsc
            rw [← HSC.out, decide_eq_true (by omega)] at hh1
            have hh2 := Ep.has_span HOK.out f t (t - 1) hf.2 (by omega) hsc
            rw [← HSC.out, decide_eq_false (by omega)] at hh2
            have hln : 0 < n := by
              rcases Nat.eq_zero_or_pos n with e | e
              · have := Ep.ahead_le l t; rw [Ep.span_len f t (by omega)] at hsc; have := HLN.out; omega
              · exact e
            obtain ⟨mz, hmz⟩ : ∃ mz, n = mz + 1 := ⟨n - 1, by omega⟩
            obtain ⟨E, hE⟩ : ∃ E, E = (Ep.pr l mz).ep := ⟨_, rfl⟩
            have hEall : ∀ i, i < l.length → (Ep.pr l i).ep < E + 1 := fun i hi => by have := (HOK.out.rise.le (i := i) (j := mz) (by have := HLN.out; omega) (by have := HLN.out; omega)).1; omega
            have hE0 := (HOK.out.right mz (by have := HLN.out; omega)).1
            rw [← hE] at hE0
            have hcl := Ep.len_cutEnd l (t - 1)
            have hal := Ep.ahead_le l (t - 1)
            obtain ⟨n0, hn0⟩ : ∃ n0, n0 = if 0 < (Ep.cutEnd l (t - 1)).length then (Ep.last (Ep.cutEnd l (t - 1))).ep else 0 := ⟨_, rfl⟩
            have hmax : max n0 E = E := by
              have : n0 ≤ E := by
                rw [hn0]
                split
                · rename_i k
                  have e1 : Ep.last (Ep.cutEnd l (t - 1)) = Ep.pr l ((Ep.cutEnd l (t - 1)).length - 1) := by
                    unfold Ep.last
                    have e2 : ∀ j, j < Ep.ahead l (t - 1) → Ep.pr (Ep.cutEnd l (t - 1)) j = Ep.pr l j := fun j hj => by unfold Ep.cutEnd; exact Ep.pr_take hj
                    exact e2 _ (by omega)
                  rw [e1]
                  have := hEall ((Ep.cutEnd l (t - 1)).length - 1) (by omega)
                  omega
                · omega
              omega
            have HBQ : Hid (E < 1073741824 → Ep.begin (Ep.cutEnd l (t - 1)) (E + 1) (t - 1) = (none, Ep.cutEnd l (t - 1) ++ [⟨E + 1, t - 1⟩]) ∧ Ep.has (Ep.cutEnd l (t - 1) ++ [⟨E + 1, t - 1⟩]) sc t t = false) := hide fun hk => by
              have hr : Ep.right ⟨E + 1, t - 1⟩ := ⟨⟨by show 0 ≤ E + 1; omega, by show E + 1 ≤ _; omega⟩, by show 0 ≤ t - 1; omega, by show t - 1 ≤ _; omega⟩
              have h1 := Ep.begin_cut HOK.out (E + 1) (t - 1) hEall hr
              rw [if_neg (by have := HLN.out; omega)] at h1
              have hok2 := (HOK.out.cutEnd (t - 1)).begin (E + 1) (t - 1)
              rw [h1] at hok2
              have h2 := Ep.not_has (q := sc) hok2 (fun i hi => by rw [HSC.out] at hi ⊢; exact Ep.span_ep f t (by omega) hEall i hi) t
              rw [show t - 1 + 1 = t by omega] at h2
              exact ⟨h1, h2⟩
            have HH1 : Hid (∀ V, Lns w [(X, l)] [(Ac, cc, sc)] V → Calls Tryd.prog 33 #[.pointer (some ⟨X, 0, none⟩), .slice Ac nc cc, .int .i64 t, .int .i64 (t + hh)] V fun e w' => e = .returned (.bool true) ∧ Lns w [(X, l)] [(Ac, cc, sc)] w') := hide fun V hV => by
              have := hV.has (i := 0) (j := 0) p HS3.out rfl rfl HNC.out t (t + hh)
              rw [hh1] at this; exact this
            have HH2 : Hid (∀ V, Lns w [(X, l)] [(Ac, cc, sc)] V → Calls Tryd.prog 33 #[.pointer (some ⟨X, 0, none⟩), .slice Ac nc cc, .int .i64 t, .int .i64 (t - 1)] V fun e w' => e = .returned (.bool false) ∧ Lns w [(X, l)] [(Ac, cc, sc)] w') := hide fun V hV => by
              have := hV.has (i := 0) (j := 0) p HS3.out rfl rfl HNC.out t (t - 1)
              rw [hh2] at this; exact this
            have HL2 : Hid (∀ V Y, Lns w [(X, l), (Y, Ep.cutEnd l (t - 1))] [(Ac, cc, sc)] V → Calls Tryd.prog 34 #[.pointer (some ⟨Y, 0, none⟩)] V fun e w' => ∃ ls, e = .returned (.tuple #[.agg #[.int .i64 (Ep.last (Ep.cutEnd l (t - 1))).ep, .int .i64 ls], .bool (decide (0 < (Ep.cutEnd l (t - 1)).length))]) ∧ Lns w [(X, l), (Y, Ep.cutEnd l (t - 1))] [(Ac, cc, sc)] w') := hide fun V Y hV => by
              refine (hV.last (i := 1) rfl).mono ?_
              rintro e w' ⟨rfl, h⟩
              exact ⟨_, rfl, h⟩
            have HEE := hide hE
            have HEB := hide hE0
            clear hh1 hh2 hsc hfm hmt2 hf ht1 hq hEall hE0 hcl hal hE hln
            subst hmz
            obtain ⟨be, hbe⟩ : ∃ be, be = decide (0 < (Ep.cutEnd l (t - 1)).length) := ⟨_, rfl⟩
            obtain ⟨le, hle'⟩ : ∃ le, le = (Ep.last (Ep.cutEnd l (t - 1))).ep := ⟨_, rfl⟩
            have hn1 : n0 = if be then le else 0 := by
              rw [hn0, hbe, hle']
              by_cases k : 0 < (Ep.cutEnd l (t - 1)).length
              · rw [if_pos k, decide_eq_true k, if_pos rfl]
              · rw [if_neg k, decide_eq_false k]; rfl
            rw [← hbe, ← hle'] at HL2
            have HN1 := hide hn1
            clear hn1 hn0 hbe hle'
            go_upto_if 134 with (first
              | (go_at_call 31; refine (HLH.out _).mono ?_; rintro e w10 ⟨rfl, e⟩; subst e)
              | (go_at_call 33; have _t := M11; refine (HH2.out _ M11.out).mono ?_; rintro e w12 ⟨rfl, h12⟩; have M12 := hide h12; clear h12 M11)
              | (go_at_call 33; refine (HH1.out _ M.out).mono ?_; rintro e w11 ⟨rfl, h11⟩; have M11 := hide h11; clear h11 M)
              | (go_at_call 15; refine (M12.out.clone (i := 0) rfl).mono ?_; rintro e w13 ⟨Y, rfl, h13⟩; have M13 : Hid (Lns w [(X, l), (Y, l)] [(Ac, cc, sc)] w13) := hide h13; clear h13 M12)
              | (go_at_call 19; refine (M13.out.cutEnd (i := 1) rfl (t - 1)).mono ?_; rintro e w14 ⟨rfl, h14⟩; have M14 : Hid (Lns w [(X, l), (Y, Ep.cutEnd l (t - 1))] [(Ac, cc, sc)] w14) := hide h14; clear h14 M13)
              | (go_at_call 34; refine (HL2.out _ _ M14.out).mono ?_; rintro e w15 ⟨ls, rfl, h15⟩; have M15 : Hid (Lns w [(X, l), (Y, Ep.cutEnd l (t - 1))] [(Ac, cc, sc)] (w15.alloc (.cells #[.int .i64 le, .int .i64 ls] 59))) := hide (h15.below (balloc (Below.refl _ _) _)); clear h15 M14)
              | fail)
            obtain ⟨W16, hW16⟩ : ∃ W, W = w15.alloc (.cells #[.int .i64 le, .int .i64 ls] 59) := ⟨_, rfl⟩
            have y0 : W16.cell? ⟨w15.heap.size, 0, none⟩ = some (.int .i64 le) := by rw [hW16, World.cell?_alloc_mark]; rfl
            rw [← hW16] at M15 ⊢
            clear hW16
            go_cut [20] from 135 (fun nv wx => nv = .int .i64 n0 ∧ wx = W16)
            case first =>
              cases be with
              | true =>
                rw [if_pos rfl] at HN1
                go_wp2_with fail
                go_meet
                exact ⟨by rw [HN1.out], rfl⟩
              | false =>
                have HN2 : Hid (n0 = 0) := hide HN1.out
                clear HN1
                go_wp2_with fail
                go_meet
                exact ⟨by rw [HN2.out], rfl⟩
            case rest =>
              obtain ⟨rfl, rfl⟩ := hcut
              have HPR := hide (M15.out.pairs (i := 0) rfl)
              have hwz : IntKind.i64.wrap (mz : Int) = (mz : Int) := by rw [IntKind.wrap_i64]; omega
              have hwz2 : IntKind.i64.wrap ((mz : Int) + 1 - 1) = (mz : Int) := by rw [IntKind.wrap_i64]; omega
              by_cases hk : 1073741824 ≤ E
              · have dE : decide (1073741824 ≤ E) = true := decide_eq_true hk
                clear hk
                go_wp2_with (first
                  | (go_at_call 16; refine HPR.out.mono ?_; rintro e w17 ⟨Ap, cp, rfl, -, h17⟩; have M17 := hide h17.bel; have hpp : PrAt w17 Ap cp l := h17.row 1 rfl; obtain ⟨gp, fp, ep, -, yp, -⟩ := hpp.at_ mz (by have := HLN.out; omega); subst ep; rw [← HEE.out] at yp; have hlp : mz + 1 ≤ cp := HLN.out ▸ hpp.le; clear h17 hpp; rw [HLN.out])
                  | fail)
                go_ret
                exact ⟨rfl, M17.out⟩
              · have dE : decide (1073741824 ≤ E) = false := decide_eq_false hk
                obtain ⟨hb1, hb2⟩ := HBQ.out (by omega)
                have hwE : IntKind.i64.wrap (E + 1) = E + 1 := by rw [IntKind.wrap_i64]; have := HEB.out; omega
                have HBG : Hid (∀ V R, Lns w [(X, l), (Y, Ep.cutEnd l (t - 1))] R V → Calls Tryd.prog 18 #[.pointer (some ⟨Y, 0, none⟩), .int .i64 (E + 1), .int .i64 (t - 1)] V fun e w' => e = .returned .nilIface ∧ Lns w [(X, l), (Y, Ep.cutEnd l (t - 1) ++ [⟨E + 1, t - 1⟩])] R w') := hide fun V R hV => by
                  have := hV.begin (i := 1) p HS4.out rfl (E + 1) (t - 1)
                  rw [hb1] at this
                  exact this
                have HHS : Hid (∀ V R, Lns w [(X, l), (Y, Ep.cutEnd l (t - 1) ++ [⟨E + 1, t - 1⟩])] R V → R[0]? = some (Ac, cc, sc) → Calls Tryd.prog 33 #[.pointer (some ⟨Y, 0, none⟩), .slice Ac nc cc, .int .i64 t, .int .i64 t] V fun e w' => e = .returned (.bool false) ∧ Below w.heap.size w w') := hide fun V R hV hR => by
                  have := hV.has (i := 1) (j := 0) p HS3.out rfl hR HNC.out t t
                  rw [hb2] at this
                  exact this.mono fun e w' ⟨h1, h2⟩ => ⟨h1, h2.bel⟩
                clear hk hb1 hb2
                go_wp2_with (first
                  | (go_at_call 16; refine HPR.out.mono ?_; rintro e w17 ⟨Ap, cp, rfl, -, h17⟩; have M17 := hide h17; have hpp : PrAt w17 Ap cp l := h17.row 1 rfl; obtain ⟨gp, fp, ep, -, yp, -⟩ := hpp.at_ mz (by have := HLN.out; omega); subst ep; rw [← HEE.out] at yp; have hlp : mz + 1 ≤ cp := HLN.out ▸ hpp.le; clear h17 hpp; rw [HLN.out])
                  | (go_at_call 18; refine (HBG.out _ _ M17.out).mono ?_; rintro e w18 ⟨rfl, h18⟩; have M18 := hide h18; clear h18)
                  | (go_at_call 33; refine (HHS.out _ _ M18.out rfl).mono ?_; rintro e w19 ⟨rfl, h19⟩; have M19 := hide h19; clear h19)
                  | fail)
                go_ret
                exact ⟨rfl, M19.out⟩
end Go.Proofs.YtplpakdbahlgaaaDoor

namespace Go.Proofs.YtplpakdbahlgaaaDoor.SpansLaw9
open Go.Proofs.YtplpakdbahlgaaaDoor
open Go.RowKit Go.ChangeShapes Go.WideShapes Go.ChangeAt

set_option maxRecDepth 100000 in
theorem lifted (os : Os) (started : os.Started) (H : Type) (enc : TypeId × Value → H) :
    ReturnsInHanded {} Tryd.checked os 5 .any (fun w args => (Rows.epochSpansSpec.pre enc Tryd.prog Tryd.f5 [] false w args ∧ laidMetH Tryd.prog laidE4 w) ∧ sizedMet enc Tryd.prog Tryd.f5 (OpenSpec.ofChange Rows.epochSpansSpec) false w args)
      (Rows.epochSpansSpec.post enc Tryd.prog Tryd.f5 false true false false) := by
  refine returnsInHanded_of_change_and (C := Tryd.checked) (X := fun w _ => laidMetH Tryd.prog laidE4 w) (fun _ _ _ hh h => h.of_heap hh) own started (by kernel_rfl) Tryd.func5
    (ChangeSpec.witness_shaped (enc := enc) (C := Tryd.checked) (os := os) (X := fun w _ => laidMetH Tryd.prog laidE4 w) false (World.doorLaid Tryd.prog 400 os) #[.slice none 0 0, .int .i64 0, .int .i64 0, .int .i64 0, .int .i64 0] 8 rfl (World.shaped_of_RefB (by kernel_rfl) (by kernel_rfl)) (by kernel_rfl) (by kernel_rfl) (by kernel_rfl) (door_met_e4 os _)) ?_
  intro W base args ds gs before hval0 hW _ _ hL _
  have hval : ∀ (j : Nat) t v, Tryd.f5.params[j]? = some t → args[j]? = some v → Value.okWide Tryd.prog W .any base t v := hval0
  have hW' := hW
  obtain ⟨p, q, hA0, hV, rfl, hfz, hnd⟩ := hW
  have hA : DataW.TrodAll enc Tryd.prog W 0 (fun _ => true) true Tryd.f5.params.toList args.toList ds p := hA0
  rw [Tryd.params5] at hA hval
  obtain ⟨v0, vs0, d0, ds0, p0, q0, hargs, rfl, rfl, h0, r0⟩ := trodAll_cons hA
  obtain ⟨v1, vs1, d1, ds1, p1, q1, rfl, rfl, rfl, h1, r1⟩ := trodAll_cons r0
  obtain ⟨v2, vs2, d2, ds2, p2, q2, rfl, rfl, rfl, h2, r2⟩ := trodAll_cons r1
  obtain ⟨v3, vs3, d3, ds3, p3, q3, rfl, rfl, rfl, h3, r3⟩ := trodAll_cons r2
  obtain ⟨v4, vs4, d4, ds4, p4, q4, rfl, rfl, rfl, h4, r4⟩ := trodAll_cons r3
  obtain ⟨rfl, rfl, rfl⟩ := trodAll_nil r4
  obtain rfl : args = #[v0, v1, v2, v3, v4] := by cases args; simp_all
  obtain ⟨rfl, rfl⟩ := trodVars_none hV
  obtain ⟨a0, len0, cap0, rfl⟩ := okWide_slice Tryd.underlying22 (hval 0 22 v0 rfl rfl)
  have k0 := h0
  have lt0 : ∀ x ∈ p0, x.block < W.heap.size := by obtain ⟨m, hm⟩ := k0; exact DataW.trod_lt m _ _ _ hm
  obtain ⟨l0, rfl, pa0⟩ := pairs_of h0
  obtain ⟨a1, rfl, rfl, rfl, w1⟩ := open_int Tryd.underlying2 (hval 1 2 v1 rfl rfl) h1
  have hb1 := bounds_i64 w1
  obtain ⟨a2, rfl, rfl, rfl, w2⟩ := open_int Tryd.underlying2 (hval 2 2 v2 rfl rfl) h2
  have hb2 := bounds_i64 w2
  obtain ⟨a3, rfl, rfl, rfl, w3⟩ := open_int Tryd.underlying2 (hval 3 2 v3 rfl rfl) h3
  have hb3 := bounds_i64 w3
  obtain ⟨a4, rfl, rfl, rfl, w4⟩ := open_int Tryd.underlying2 (hval 4 2 v4 rfl rfl) h4
  have hb4 := bounds_i64 w4
  clear hA0 hval0
  obtain ⟨ps, hsent⟩ := sents_of_e4 hL
  refine (spans_any W ps hsent a0 cap0 l0.length l0 a1 a2 a3 a4 rfl pa0 hb1 hb2 hb3 hb4).mono fun e W' ⟨he, bel⟩ => ?_
  subst he
  exact ⟨_, rfl, _, _, _, [], _, [], hW', trodAll_mk1 (shut_bool Tryd.underlying4 _), (trodAll_cons_mk (Below.trod laidOut (by kernel_rfl) (of_decide_eq_true (by kernel_rfl)) k0 bel lt0) (trodAll_cons_mk (shut_int Tryd.underlying2 w1) (trodAll_cons_mk (shut_int Tryd.underlying2 w2) (trodAll_cons_mk (shut_int Tryd.underlying2 w3) (trodAll_cons_mk (shut_int Tryd.underlying2 w4) trodAll_mk0))))), rfl, bel.frame _, fun h => by cases h⟩

theorem row : Rows.EpochSpansSaid :=
  OpenClaim.holds_of_wide 5 Tryd.f5 rfl rfl rfl rfl rfl rfl rfl ⟨rfl, rfl, rfl, rfl, rfl⟩ rfl rfl rfl rfl rfl (by kernel_rfl) Tryd.func5 (by kernel_rfl)
    (of_decide_eq_true (by kernel_rfl)) (by unfold Func.isWrapper; first | (rw [if_pos (by decide +kernel)]; kernel_rfl) | (rw [if_neg (by decide +kernel)]; exact ⟨rfl, rfl⟩))
    (fun os started H enc _ => lifted os started H enc)

theorem proved : Rows.EpochSpansCardSaid :=
  Claim7.holds_tied_plain_at .later [] _ true _ true
    row (fun _ h => by cases h) (by kernel_rfl) (fun _ h => by cases h) epochSpans_row_tie rfl ⟨rfl, rfl⟩ (by kernel_rfl) rfl
    (fun f fn hf hfn => by
      obtain rfl : f = 5 := Option.some.inj ((show Tryd.prog.funcNamed "cordwood/cordwoodlaw9.EpochSpans" = some 5 by kernel_rfl).symm.trans hf) |>.symm
      obtain rfl : fn = Tryd.f5 := (Option.some.inj (Tryd.func5.symm.trans hfn)).symm
      exact ⟨by kernel_rfl, fun j t ht => by
        rw [Tryd.params5] at ht
        have hm : t ∈ [22, 2, 2, 2, 2] := by simpa using Array.mem_of_getElem? ht
        have hall : ([22, 2, 2, 2, 2].all fun u => !Tryd.prog.wantsStandIn u) = true := by kernel_rfl
        exact (show Tryd.prog.wantsStandIn t = false by simpa using List.all_eq_true.1 hall t hm)⟩)
    (by kernel_rfl)
end Go.Proofs.YtplpakdbahlgaaaDoor.SpansLaw9
