/-
  HotReads, walked: a read of any offset, by any limit.
-/
import Derived.Test.YtcmgppacipdnaaaGreatDoorQHtW
import Derived.Test.YtcmgppacipdnaaaGreatDoorQSgEa
import Derived.Test.YtcmgppacipdnaaaGreatDoorQHtS
import Derived.Test.YtcmgppacipdnaaaGreatDoorQRSame
import Derived.BigQuiet
namespace Go.Proofs.YtcmgppacipdnaaaGreatDoor
open Go.RowKit Go.Maps

set_option maxRecDepth 100000 in
set_option maxHeartbeats 16000000 in
theorem hotReads_walk (w : World) (p : Nat → Addr) (hs : SentsG w p) (hs2 : Sents w p) (ht : Tabs w) (hpt : PowTab w) (A : Option Addr) (cap n : Nat) (zs : List Int) (hn : zs.length = n) (hA : Ints w A zs) (hz : ∀ k, k < zs.length → -9223372036854775808 ≤ zs.getD k 0 ∧ zs.getD k 0 ≤ 9223372036854775807) (na nb most : Int) (ha1 : -9223372036854775808 ≤ na) (ha2 : na ≤ 9223372036854775807) (hb1 : -9223372036854775808 ≤ nb) (hb2 : nb ≤ 9223372036854775807) (hm1 : -9223372036854775808 ≤ most) (hm2 : most ≤ 9223372036854775807) :
    Calls Tryz.prog 4 #[.slice A n cap, .int .i64 na, .int .i64 nb, .int .i64 most] w fun e w' => e = .returned (.bool true) ∧ Below w.heap.size w w' := by
  have HF := hide (htFirst_any w p hs ht hpt)
  have HS := hide hs
  have HS2 := hide hs2
  have HT := hide ht
  have HPT := hide hpt
  by_cases hle : n ≤ 20
  · have hxa := num_lt na 300 (by omega)
    obtain ⟨xa, hxa2⟩ : ∃ x, num na 300 = x := ⟨_, rfl⟩
    rw [hxa2] at hxa
    have HNA := hide (fun (W : World) => num_at na 300 300 W (by omega) (by omega) (by omega) ha1 ha2)
    rw [hxa2] at HNA
    have hwa : IntKind.i64.wrap ((xa : Int) + 1) = (xa : Int) + 1 := IntWalk.i64_in _ (by omega)
    have HRW := hide (fun (W : World) (hW : Below w.heap.size w W) => rowE_any 4 A cap n 3 zs W hn hle (by omega) (by omega) (hA.below hW (Nat.le_refl _)) hz)
    have hok := Rw.goB_ok zs ((4 : Nat) : Int) 0 3 (by omega) (by omega) (by omega)
    have hgd : ∀ b ∈ Rw.go ((4 : Nat) : Int) 0 3 zs, Rc.Good b := fun b hb => (hok b hb).1
    have hsm := Rw.go_small zs ((4 : Nat) : Int) 0 3 hgd
    have hch := Rw.go_chain zs ((4 : Nat) : Int) 0 3 (Sg.begin (Nm.seg 4) 4 60) rfl (by decide)
    have hln : (Rw.go ((4 : Nat) : Int) 0 3 zs).length = n := by rw [Rw.go_len, hn]
    have HGD := hide hgd
    have HSM := hide hsm
    have HCH := hide hch
    have HLN := hide hln
    clear hok hgd hsm hch hln hs hs2 ht hpt hA hz hn ha1 ha2 hxa2
    generalize Rw.go ((4 : Nat) : Int) 0 3 zs = cs at *
    have HMD := hide (fun (W : World) (hb : Below w.heap.size w W) (A : Option Addr) (cap : Nat) (hbt : Bats W A cs) => htMade_any ((xa : Int) + 1) 4 A cap n cs W p (HS.out.below hb) (HT.out.below hb (Nat.le_refl _)) (HPT.out.below hb) HLN.out (by omega) hbt HGD.out HSM.out (by omega) (by omega) (Sg.begin (Nm.seg 4) 4 60) rfl HCH.out)
    obtain ⟨s0, hs0⟩ : ∃ s, s = Sg.begin (Nm.seg 4) 4 60 := ⟨_, rfl⟩
    have h1s : s0.edges.length = 1 := by rw [hs0]; rfl
    have hof : (Sg.last s0.edges).off = 4 := by rw [hs0]; rfl
    have hcs : Sg.Chain s0 cs := by rw [hs0]; exact HCH.out
    have hnc : (n : Int) ≤ 20 := by omega
    obtain ⟨sz, hsz⟩ : ∃ z : Int, z = (xa : Int) + 1 := ⟨_, rfl⟩
    rw [← hsz] at HMD
    replace hwa : IntKind.i64.wrap ((xa : Int) + 1) = sz := by rw [hwa, hsz]
    clear hsz
    have hgl := Ht.grp_len sz 4 cs
    have HCO := hide (Ht.grp_cont sz 4 cs s0 hof hcs)
    have HTI := hide (Ht.grp_tight sz 4 cs s0 hof hcs)
    have HAL := hide (Ht.grp_all sz 4 cs).1
    have HUS : Hid (Ht.used (Ht.grp sz 4 cs) ≤ 900000) := hide (by
      rw [Ht.grp_used sz 4 cs]; unfold Ht.size
      have h1 := flat_len_le Rc.bytes 300 cs HSM.out
      have h2 : 300 * cs.length ≤ 300 * 20 := Nat.mul_le_mul_left _ (by have := HLN.out; omega)
      omega)
    have HGL := hide (Ht.grp_last sz 4 cs)
    have HGF := hide (Ht.grp_first sz 4 cs)
    -- where the log ends
    obtain ⟨E, hE⟩ : ∃ E, E = Ht.lastOff 4 cs := ⟨_, rfl⟩
    have hEn : offP s0 cs n = E := by
      rw [hE, ← chain_last hof cs]
      unfold offP
      rw [Sg.ed_last s0 h1s cs n (by have := HLN.out; omega), List.take_of_length_le (by have := HLN.out; omega)]
    have hE0 : offP s0 cs 0 = 4 := by
      unfold offP
      rw [Sg.ed_last s0 h1s cs 0 (Nat.zero_le _)]
      exact hof
    have hE4 : 4 ≤ E := by rw [← hEn, ← hE0]; exact offP_le h1s hcs HGD.out 0 n (Nat.zero_le _) (by have := HLN.out; omega)
    have hEb : E ≤ 1099511627900 := by
      rcases Nat.eq_zero_or_pos n with h0 | h0
      · rw [← hEn, h0, hE0]; omega
      · have hk : n - 1 < cs.length := by have := HLN.out; omega
        have h2 := offP_next (s0 := s0) h1s (n - 1) hk
        rw [show n - 1 + 1 = n by omega, hEn] at h2
        have h3 := HGD.out _ (List.getElem_mem hk)
        have := h3.base1; have := h3.n1; omega
    have hwE : IntKind.i64.wrap (E - 1) = E - 1 := IntWalk.i64_in _ (by omega)
    have HLG := hide (fun (W : World) => long_any nb (E - 1) W (by omega) (by omega) hb1 hb2)
    have m1 := Int.emod_nonneg nb (show (E - 1 : Int) ≠ 0 by omega)
    have m2 := Int.emod_lt_of_pos nb (show (0 : Int) < E - 1 by omega)
    obtain ⟨ak, hak⟩ : ∃ B : Int, nb % (E - 1) = B := ⟨_, rfl⟩
    rw [hak] at HLG m1 m2
    obtain ⟨o, ho⟩ : ∃ o, o = 3 + ak := ⟨_, rfl⟩
    have hwo : IntKind.i64.wrap (3 + ak) = o := by rw [IntWalk.i64_in _ (by omega), ho]
    have hEND : Hid (∀ (w0 W : World) (U : Nat → Prop) (Bd H : Nat), HtA w0 U (3 + 5 * n) Bd H sz 60 1048576 (Ht.grp sz 4 cs) W → Calls Tryz.prog 21 #[.pointer (some ⟨H, 0, none⟩)] W fun e w' => e = .returned (.int .i64 E) ∧ Below W.heap.size W w') := hide fun w0 W U Bd H h => by
      obtain ⟨g0, o', ds, e1, e2, -⟩ := HGL.out
      rw [e1] at h
      rw [hE, ← e2]
      exact htEnd_A h
    have hob : 3 ≤ o ∧ o ≤ E + 1 := by omega
    clear hb1 hb2 hak m1 m2
    obtain ⟨gs, hgs⟩ : ∃ gs, gs = Ht.grp sz 4 cs := ⟨_, rfl⟩
    have HGG := hide hgs
    rw [← hgs] at HMD HCO HTI HAL HUS HGL HGF hEND hgl
    have hgl2 : gs.length ≤ 10000 := by have := HLN.out; omega
    clear hgs
    by_cases hout : o < 4 ∨ E ≤ o
    · have HRO : Hid (∀ (w0 W : World) (U : Nat → Prop) (Bd H : Nat), SentsG w0 p → HtA w0 U (3 + 5 * n) Bd H sz 60 1048576 gs W → Calls Tryz.prog 24 #[.pointer (some ⟨H, 0, none⟩), .int .i64 o, .int .i64 most] W fun e w' => e = .returned (.tuple #[.slice none 0 0, errV (p 14)]) ∧ Below W.heap.size W w') := hide fun w0 W U Bd H hsg h => by
        obtain ⟨g0, o', ds, e1, e2, -⟩ := HGL.out
        obtain ⟨c1, g1, e3⟩ := HGF.out
        rcases hout with h1 | h1
        · refine htRead_lo h HCO.out p hsg hgl2 (by rw [e1]; simp) o most ?_
          simp only [e3, List.getElem_cons_zero]
          exact h1
        · refine htRead_hi h HCO.out p hsg hgl2 o most fun g hg => ?_
          obtain ⟨i, hi, rfl⟩ := List.getElem_of_mem hg
          have hone := fun i (hi : i < gs.length) => HCO.out.one gs[i] (List.getElem_mem hi)
          have hlen : gs.length = g0.length + 1 := by rw [e1]; simp
          have hlast : gs[g0.length]'(by omega) = (o', ds) := by simp [e1]
          have hlo : Ht.lastOff (gs[g0.length]'(by omega)).1 (gs[g0.length]'(by omega)).2 = E := by rw [hlast, hE]; exact e2
          rcases Nat.lt_or_ge i g0.length with h2 | h2
          · have h3 := List.pairwise_iff_getElem.1 HCO.out.two i g0.length hi (by omega) h2
            have h4 := hone g0.length (by omega)
            omega
          · obtain rfl : i = g0.length := by omega
            omega
      have hd : decide (o < 4) = true ∨ (decide (o < 4) = false ∧ decide (E ≤ o) = true) := by
        by_cases h4 : o < 4
        · exact .inl (decide_eq_true h4)
        · exact .inr ⟨decide_eq_false h4, decide_eq_true (by omega)⟩
      clear HGL HGF HTI HAL HUS HCO hout
      clear hEn hE0 hE4 hEb hE ho hob hof hcs h1s hs0 hgl2 hgl
      rcases hd with hd | ⟨hd, hd2⟩
      · have h4 : o < 4 := of_decide_eq_true hd
        go_enter Tryz.func4, Tryz.ntmps4
        go_wp2_with (first
          | (go_at_call 12; refine HF.out.mono ?_; rintro e w1 ⟨rfl, hb⟩; have HB1 := hide hb; clear hb)
          | (go_at_call 13; refine (HNA.out w1).mono ?_; rintro e w' ⟨rfl, rfl⟩)
          | (go_at_call 15; refine (HRW.out w1 HB1.out).mono ?_; rintro e w2 ⟨⟨A2, c2, rfl, hc2, hm2, hbt2, -⟩, hb2⟩; have HB2 := hide (HB1.out.trans (hb2.mono HB1.out.size)); have HBT := hide hbt2; clear hbt2 hb2)
          | (go_at_call 16; refine (HMD.out w2 HB2.out A2 c2 HBT.out).mono ?_; rintro e w4 ⟨Bd1, H1, U1, rfl, h3⟩; have H4 := hide h3; have HB4 := hide (HB2.out.trans (h3.below.mono HB2.out.size)); clear h3)
          | (go_at_call 21; refine (hEND.out _ w4 _ _ _ H4.out).mono ?_; rintro e w5 ⟨rfl, hb⟩; have H5 := hide (H4.out.grow hb); have HB5 := hide (HB4.out.trans (hb.mono HB4.out.size)); clear hb)
          | (go_at_call 14; refine (HLG.out w5).mono ?_; rintro e w5' ⟨rfl, rfl⟩)
          | (go_at_call 24; refine (HRO.out _ w5 _ _ _ (HS.out.below HB2.out) H5.out).mono ?_; rintro e w6 ⟨rfl, hb⟩; have HB6 := hide (HB5.out.trans (hb.mono HB5.out.size)); clear hb)
          | (go_at_call 25; refine (is_sent w6 p (HS2.out.below HB6.out) 14 (by omega) 115).mono ?_; rintro e w7 ⟨rfl, hb⟩; have HB7 := hide (HB6.out.trans (hb.mono HB6.out.size)); clear hb)
          | fail)
        go_ret
        exact ⟨rfl, HB7.out⟩
      · have h4 : ¬ o < 4 := of_decide_eq_false hd
        go_enter Tryz.func4, Tryz.ntmps4
        go_wp2_with (first
          | (go_at_call 12; refine HF.out.mono ?_; rintro e w1 ⟨rfl, hb⟩; have HB1 := hide hb; clear hb)
          | (go_at_call 13; refine (HNA.out w1).mono ?_; rintro e w' ⟨rfl, rfl⟩)
          | (go_at_call 15; refine (HRW.out w1 HB1.out).mono ?_; rintro e w2 ⟨⟨A2, c2, rfl, hc2, hm2, hbt2, -⟩, hb2⟩; have HB2 := hide (HB1.out.trans (hb2.mono HB1.out.size)); have HBT := hide hbt2; clear hbt2 hb2)
          | (go_at_call 16; refine (HMD.out w2 HB2.out A2 c2 HBT.out).mono ?_; rintro e w4 ⟨Bd1, H1, U1, rfl, h3⟩; have H4 := hide h3; have HB4 := hide (HB2.out.trans (h3.below.mono HB2.out.size)); clear h3)
          | (go_at_call 21; refine (hEND.out _ w4 _ _ _ H4.out).mono ?_; rintro e w5 ⟨rfl, hb⟩; have H5 := hide (H4.out.grow hb); have HB5 := hide (HB4.out.trans (hb.mono HB4.out.size)); clear hb)
          | (go_at_call 21; refine (hEND.out _ w6 _ _ _ H6.out).mono ?_; rintro e w8 ⟨rfl, hb⟩; have HB8 := hide (HB6.out.trans (hb.mono HB6.out.size)); clear hb)
          | (go_at_call 14; refine (HLG.out w5).mono ?_; rintro e w5' ⟨rfl, rfl⟩)
          | (go_at_call 24; refine (HRO.out _ w5 _ _ _ (HS.out.below HB2.out) H5.out).mono ?_; rintro e w6 ⟨rfl, hb⟩; have H6 := hide (H5.out.grow hb); have HB6 := hide (HB5.out.trans (hb.mono HB5.out.size)); clear hb)
          | (go_at_call 25; refine (is_sent w8 p (HS2.out.below HB8.out) 14 (by omega) 115).mono ?_; rintro e w7 ⟨rfl, hb⟩; have HB7 := hide (HB8.out.trans (hb.mono HB8.out.size)); clear hb)
          | fail)
        go_ret
        exact ⟨rfl, HB7.out⟩
    · have hoi : 4 ≤ o ∧ o < E := by omega
      have hd : decide (o < 4) = false := decide_eq_false (by omega)
      have hd2 : decide (E ≤ o) = false := decide_eq_false (by omega)
      have HPL : Hid (offP s0 cs n = E ∧ offP s0 cs 0 = 4 ∧ s0.edges.length = 1 ∧ Sg.Chain s0 cs ∧ 4 ≤ E ∧ E ≤ 1099511627900 ∧ (4 ≤ o ∧ o < E) ∧ gs.length ≤ 10000 ∧ gs.length ≤ cs.length + 1) := hide ⟨hEn, hE0, h1s, hcs, hE4, hEb, hoi, hgl2, hgl⟩
      clear hEn hE0 hE4 hEb hE ho hob hof hcs h1s hs0 hgl2 hgl hout hoi HGL HGF HTI
      obtain ⟨G, hG⟩ : ∃ G, G = gs.length := ⟨_, rfl⟩
      have HGG' := hide hG.symm
      have hGL : G ≤ 21 := by have := HPL.out; have := HLN.out; omega
      clear hG
      go_enter Tryz.func4, Tryz.ntmps4
      go_upto_region 12 with (first
        | (go_at_call 12; refine HF.out.mono ?_; rintro e w1 ⟨rfl, hb⟩; have HB1 := hide hb; clear hb)
        | (go_at_call 13; refine (HNA.out w1).mono ?_; rintro e w' ⟨rfl, rfl⟩)
        | (go_at_call 15; refine (HRW.out w1 HB1.out).mono ?_; rintro e w2 ⟨⟨A2, c2, rfl, hc2, hm2, hbt2, -⟩, hb2⟩; have HB2 := hide (HB1.out.trans (hb2.mono HB1.out.size)); have HBT := hide hbt2; clear hbt2 hb2)
        | (go_at_call 16; refine (HMD.out w2 HB2.out A2 c2 HBT.out).mono ?_; rintro e w4 ⟨Bd1, H1, U1, rfl, h3⟩; have H4 := hide h3; have HB24 := hide h3.below; clear h3)
        | (go_at_call 21; refine (hEND.out _ w4 _ _ _ H4.out).mono ?_; rintro e w5 ⟨rfl, hb⟩; have H5 := hide (H4.out.grow hb); have HB25 := hide (HB24.out.trans (hb.mono HB24.out.size)); clear hb)
        | (go_at_call 14; refine (HLG.out w5).mono ?_; rintro e w5' ⟨rfl, rfl⟩)
        | fail)
      have HIN := hide H5.out.inner
      obtain ⟨pEn, pE0, p1, pc, pE4, pEb, po, pgl, pgl2⟩ := HPL.out
      obtain ⟨q, hq, k, hk, j, hj, hqk, q1, q2, g1, g2, g3, g4⟩ := offP_place p1 pc HGD.out HAL.out (fun g hg b hb => (HIN.out g hg).1 b hb) o (by omega) (by rw [HLN.out, pEn]; omega)
      obtain ⟨c, c1, c2', c3, c4, hcall⟩ := htRead_o H5.out HCO.out p (HS.out.below HB2.out) (HT.out.below HB2.out (Nat.le_refl _)) (by omega) pgl HUS.out p1 pc HAL.out k hk j hj q hqk hq o most q1 q2
      obtain ⟨xs, hxs⟩ : ∃ xs, xs = toldR s0 cs o q c cs[q] := ⟨_, rfl⟩
      obtain ⟨aF, haF⟩ : ∃ f : Nat → Int, f = atO s0 cs o q := ⟨_, rfl⟩
      have hqc : q + c ≤ cs.length := by omega
      have HQC := hide hqc
      have HXL : Hid (xs.length = c) := hide (by rw [hxs]; exact toldR_len c1 hqc)
      have HXA : Hid (∀ i (hi : i < xs.length) (hic : q + i < cs.length), xs[i].base = aF i ∧ xs[i].base + xs[i].recs.length = aF (i + 1) ∧ xs[i].epoch = cs[q + i].epoch ∧ xs[i].recs = cs[q + i].recs.drop (aF i - offP s0 cs (q + i)).toNat ∧ offP s0 cs (q + i) ≤ aF i ∧ aF i < offP s0 cs (q + i + 1) ∧ (aF i - offP s0 cs (q + i)).toNat < cs[q + i].recs.length) := hide (by
        subst hxs; subst haF
        exact fun i hi hic => toldR_at p1 pc HGD.out c1 hqc hq q1 q2 i hi hic)
      have HOB : Hid (∀ i (hi : i < cs.length), cs[i].base = offP s0 cs i) := hide fun i hi => offP_base p1 pc i hi
      have HXG : Hid (∀ b ∈ xs, Rc.Good b) := hide fun b hb => by
        rw [hxs] at hb
        unfold toldR at hb
        have e1 := offP_base p1 pc q hq
        have e2 := offP_next (s0 := s0) p1 q hq
        rcases List.mem_cons.1 hb with rfl | hb
        · exact good_cut (HGD.out cs[q] (List.getElem_mem hq)) o _ (by omega) (by omega)
        · exact HGD.out b (List.mem_of_mem_drop (List.mem_of_mem_take hb))
      have HKK : Hid (∀ i, i < c → ∀ kk (hkk : kk < cs.length), (cs[kk].base ≤ aF i ∧ aF i < cs[kk].base + cs[kk].recs.length) ↔ kk = q + i) := hide fun i hi kk hkk => by
        have hx := HXA.out i (by rw [HXL.out]; exact hi) (by omega)
        rw [← offP_next (s0 := s0) p1 kk hkk, offP_base p1 pc kk hkk]
        exact offP_only p1 pc HGD.out (q + i) (by omega) (aF i) hx.2.2.2.2.1 hx.2.2.2.2.2.1 kk hkk
      have HA0 : Hid (aF 0 = o) := hide (by rw [haF]; rfl)
      have haC : aF c = offP s0 cs (q + c) := by
        rw [haF]
        obtain ⟨c', rfl⟩ : ∃ c', c = c' + 1 := ⟨c - 1, by omega⟩
        rfl
      have HEC : Hid (aF c ≤ Ht.lastOff gs[k].1 gs[k].2 ∧ (j + c = gs[k].2.length → aF c = Ht.lastOff gs[k].1 gs[k].2) ∧ (j + c < gs[k].2.length → aF c < Ht.lastOff gs[k].1 gs[k].2 ∧ q + c < cs.length) ∧ (j + c = gs[k].2.length ∨ j + c < gs[k].2.length)) := hide (by
        rw [haC, g3]
        refine ⟨offP_le p1 pc HGD.out _ _ (by omega) g4, fun h => by congr 1; omega, fun h => ⟨offP_lt p1 pc HGD.out _ _ (by omega) g4, by omega⟩, by omega⟩)
      have HSZ : Hid (c = 1 ∨ ((Ht.size xs : Nat) : Int) ≤ most) := hide (by rw [hxs]; exact c3)
      have HMO : Hid (j + c < gs[k].2.length → ∀ hqq : q + c < cs.length, most < ((Ht.size xs : Nat) : Int) + (Rc.bytes cs[q + c]).length) := hide (by rw [hxs]; exact c4)
      have HR2 : Hid (∀ W, Below w5.heap.size w5 W → j + c < gs[k].2.length → ∀ hqq : q + c < cs.length, Calls Tryz.prog 24 #[.pointer (some ⟨H1, 0, none⟩), .int .i64 (aF c), .int .i64 0] W fun e w' => ∃ v, e = .returned (.tuple #[v, .nilIface]) ∧ (∃ ps, BRow w' W.heap.size v ps ∧ ps.map (·.b) = [cs[q + c]]) ∧ Below W.heap.size W w') := hide fun W hW hlt hqq => by
        rw [haC]
        exact htRead_b (H5.out.grow hW) HCO.out p (HS.out.below HB2.out) (HT.out.below HB2.out (Nat.le_refl _)) (by omega) pgl HUS.out p1 pc HGD.out HAL.out k hk (j + c) hlt (q + c) (by omega) hqq
      have HSO : Hid (∀ i (hi : i < gs.length), (gs[i].1 ≤ o ∧ o < Ht.lastOff gs[i].1 gs[i].2) ↔ i = k) := hide fun i hi => Ht.seg_only HCO.out k hk o g1 g2 i hi
      have HSG := hide (fun (W : World) (hW : Below w5.heap.size w5 W) => htSegs_A (H5.out.grow hW) pgl)
      obtain ⟨EK, hEK⟩ : ∃ z, z = Ht.lastOff gs[k].1 gs[k].2 := ⟨_, rfl⟩
      rw [← hEK] at HEC
      have HEK : Hid (∀ i (hi : i < gs.length), i = k → Ht.lastOff gs[i].1 gs[i].2 = EK) := hide fun i hi e => by subst e; exact hEK.symm
      obtain ⟨LK, hLK⟩ : ∃ l, l = gs[k].2.length := ⟨_, rfl⟩
      rw [← hLK] at HEC HMO HR2
      have HRD := hide hcall
      rw [← hxs] at HRD
      have hkG : k < G := by rw [← HGG'.out]; exact hk
      clear pEn pE0 p1 pc pE4 pEb po pgl pgl2 hqk q1 q2 g1 g2 g3 g4 c2' c3 c4 hcall hxs haF hqc haC hEK hq hj hLK hk HPL HIN
      go_upto_region 15 with (first
        | (go_at_call 24; refine HRD.out.mono ?_; rintro e w6 ⟨v, rfl, ⟨ps, hq6, hp6⟩, hb⟩; obtain ⟨Ar, cr, rfl, hcr, hmr, hbr⟩ := hq6.val; have hpl := congrArg List.length hp6; rw [List.length_map, HXL.out] at hpl; rw [hp6] at hbr; rw [hpl] at hcr ⊢; have HBR6 := hide hbr; have HB56 := hide hb; clear hq6 hp6 hb hbr hpl)
        | (go_at_call 21; refine (hEND.out _ w6 _ _ _ (H5.out.grow HB56.out)).mono ?_; rintro e w7 ⟨rfl, hb⟩; have HB67 := hide hb; clear hb)
        | fail)
      have HBR7 := hide (HBR6.out.below HB67.out (Nat.le_refl _))
      have HB57 := hide (HB56.out.trans (HB67.out.mono HB56.out.size))
      obtain ⟨gR, oR, rfl, hgR, Ax, cx, x0, -, -, -⟩ := HBR7.out.at_ 0 (by rw [HXL.out]; exact c1)
      have hx0 := (HXA.out 0 (by rw [HXL.out]; exact c1) (by have := HQC.out; omega)).1
      rw [hx0, HA0.out] at x0
      have x00 : w7.cell? ⟨gR, oR, none⟩ = some (.int .i64 o) := by simpa using x0
      have hc0 : ((c : Int) == 0) = false := by simp; omega
      have u0 : (o != o) = false := bne_self_eq_false _
      clear x0 hx0 HBR6
      go_wp2_with (first
        | (go_at_call 19; refine (HSG.out w7 HB57.out).mono ?_; rintro e w8 ⟨v8, rfl, ho8, hb⟩; obtain ⟨A8, c8, rfl, ht8⟩ := ho8.reads; rw [HGG'.out]; have HT8 := hide ht8; have HB78 := hide hb; clear ho8 ht8 hb)
        | fail)
      have HB58 := hide (HB57.out.trans (HB78.out.mono HB57.out.size))
      have HB28 := hide (HB25.out.trans (HB58.out.mono HB25.out.size))
      have HBR8 := hide (HBR7.out.below HB78.out (Nat.le_refl _))
      have HBT8 := hide (HBT.out.below HB28.out (Nat.le_refl _))
      clear HF HNA HRW HMD HLG hEND H4 H5 HRD HSG HBR7 x00 hgR HBT
      go_loopw [16, 18] (fun ev iv wr => ∃ i : Nat, i ≤ G ∧ iv = .int .i64 i ∧ ev = .int .i64 (if k < i then EK else 0) ∧ Below w8.heap.size w8 wr) (fun _ iv _ => G - (intOf iv).toNat)
      case atStart => exact ⟨0, Nat.zero_le _, rfl, by rw [if_neg (Nat.not_lt_zero _)], Below.refl _ _⟩
      case round =>
        obtain ⟨i, hi, rfl, rfl, hb⟩ := hrel
        obtain ⟨wo, rfl⟩ : ∃ W, W = wr := ⟨wr, rfl⟩
        have HBX := hide hb
        clear hb
        by_cases hlt : i < G
        · have hig : i < gs.length := by rw [HGG'.out]; exact hlt
          obtain ⟨f8, rfl, hf8, x0, x1, -⟩ := (HT8.out.below HBX.out).at_ i hig
          have hgd : gs.getD i (0, []) = gs[i] := by simp [List.getD, hig]
          rw [hgd] at x0 x1
          have hso := HSO.out i hig
          have hc8 : i < c8 := by have := HT8.out.le; rw [HGG'.out] at this; omega
          have hm8 := HT8.out.mx
          by_cases hik : i = k
          · have d1 : decide (gs[i].1 ≤ o) = true := decide_eq_true (hso.2 hik).1
            have d2 : decide (o < Ht.lastOff gs[i].1 gs[i].2) = true := decide_eq_true (hso.2 hik).2
            rw [HEK.out i hig hik] at x1 d2
            have e1 : (if k < i then EK else 0) = 0 := if_neg (by omega)
            have e2 : (if k < i + 1 then EK else 0) = EK := if_pos (by omega)
            rw [e1]
            generalize gs[i].1 = t1 at *
            have HE2 := hide e2
            clear hso hgd e1 hik e2
            go_wp2_with fail
            go_roundw
            case rel => exact ⟨i + 1, by omega, by go_num, by rw [HE2.out], HBX.out⟩
            case measure => simp [intOf]; omega
          · have hno : ¬ (gs[i].1 ≤ o ∧ o < Ht.lastOff gs[i].1 gs[i].2) := fun h => hik (hso.1 h)
            have e3 : (if k < i + 1 then EK else 0) = (if k < i then EK else 0) := by
              by_cases h : k < i
              · rw [if_pos h, if_pos (by omega)]
              · rw [if_neg h, if_neg (by omega)]
            generalize Ht.lastOff gs[i].1 gs[i].2 = t2 at *
            generalize gs[i].1 = t1 at *
            generalize hV : (if k < i then EK else 0) = V at *
            have HE3 := hide (And.intro hV e3)
            by_cases ht1 : t1 ≤ o
            · have d1 : decide (t1 ≤ o) = true := decide_eq_true ht1
              have d2 : decide (o < t2) = false := decide_eq_false (by omega)
              clear hso hgd hno e3 hV
              go_wp2_with fail
              go_roundw
              case rel => exact ⟨i + 1, by omega, by go_num, by rw [HE3.out.2], HBX.out⟩
              case measure => simp [intOf]; omega
            · have d1 : decide (t1 ≤ o) = false := decide_eq_false ht1
              clear hso hgd hno e3 hV
              go_wp2_with fail
              go_roundw
              case rel => exact ⟨i + 1, by omega, by go_num, by rw [HE3.out.2], HBX.out⟩
              case measure => simp [intOf]; omega
        · obtain rfl : i = G := by omega
          rw [if_pos hkG]
          have HBRo := hide (HBR8.out.below HBX.out (Nat.le_refl _))
          have HBTo := hide (HBT8.out.below HBX.out (Nat.le_refl _))
          go_wp2_with fail
          go_loopw [19, 20, 21] (fun sv av iv wr => ∃ i : Nat, i ≤ c ∧ iv = .int .i64 i ∧ av = .int .i64 (aF i) ∧ sv = .int .i64 ((Ht.size (xs.take i) : Nat)) ∧ Below wo.heap.size wo wr) (fun _ _ iv _ => c - (intOf iv).toNat)
          case atStart => exact ⟨0, Nat.zero_le _, rfl, by rw [HA0.out], rfl, Below.refl _ _⟩
          case round =>
            obtain ⟨i, hi, rfl, rfl, rfl, hb⟩ := hrel
            obtain ⟨wi, rfl⟩ : ∃ W, W = wr := ⟨wr, rfl⟩
            have HBI := hide hb
            clear hb
            by_cases hlt : i < c
            · have hix : i < xs.length := by rw [HXL.out]; exact hlt
              have hqi : q + i < cs.length := by have := HQC.out; omega
              have HBRi := hide (HBRo.out.below HBI.out (Nat.le_refl _))
              have HBTi := hide (HBTo.out.below HBI.out (Nat.le_refl _))
              obtain ⟨gR', oR', eR, hgR, Ar, cr', t0, t1, t2, hibR⟩ := HBRi.out.at_ i hix
              injection eR with eR
              injection eR with e1 e2 _
              subst e1 e2
              obtain ⟨a1, a2, a3, a4, a5, a6, a7⟩ := HXA.out i hix hqi
              have hgdR := HXG.out xs[i] (List.getElem_mem hix)
              have HNR := hide (fun (W : World) => rnext_any xs[i] Ar cr' xs[i].recs.length W rfl hgdR.base0 (by have := hgdR.base1; omega) (by have := hgdR.n1; omega))
              have HSR := hide (fun (W : World) (hW : Below wi.heap.size wi W) => rsize1_any xs[i] Ar cr' xs[i].recs.length W (hibR.below hW (Nat.le_refl _)) hgdR rfl)
              have htk : Ht.size (xs.take (i + 1)) = Ht.size (xs.take i) + (Rc.bytes xs[i]).length := by
                rw [List.take_succ_eq_append_getElem hix]
                unfold Ht.size
                rw [List.flatMap_append, List.length_append]; simp
              have hbnd : Ht.size (xs.take (i + 1)) ≤ 100000 * (i + 1) := by
                have h := flat_len_le Rc.bytes 100000 (xs.take (i + 1)) fun b hb => bytes_most b (HXG.out b (List.mem_of_mem_take hb))
                rw [List.length_take] at h
                have h2 : min (i + 1) xs.length ≤ i + 1 := Nat.min_le_left _ _
                exact Nat.le_trans h (Nat.mul_le_mul_left _ h2)
              have hc20 : c ≤ 20 := by have := HQC.out; have := HLN.out; omega
              obtain ⟨L, hL⟩ : ∃ L, L = (Rc.bytes xs[i]).length := ⟨_, rfl⟩
              rw [← hL] at HSR htk
              rw [htk] at hbnd
              have HTK := hide htk
              obtain ⟨dr, hdr⟩ : ∃ d : Nat, d = (aF i - offP s0 cs (q + i)).toNat := ⟨_, rfl⟩
              have hdr2 : aF i - cs[q + i].base = (dr : Int) := by rw [HOB.out _ hqi]; omega
              rw [← hdr] at a4 a7
              have hrl : xs[i].recs.length = cs[q + i].recs.length - dr := by rw [a4, List.length_drop]
              have HA1 := hide a1
              have HA2 := hide a2
              have HA4 := hide a4
              have HA7 := hide a7
              have HHR := hide (And.intro hibR (And.intro hgdR (And.intro hdr2 (And.intro hrl (And.intro a3 t2)))))
              rw [a1] at t0
              rw [a2] at HNR
              rw [a1] at HNR HSR
              unfold batV at HNR HSR
              generalize hSi : Ht.size (xs.take i) = S at *
              have hwS : IntKind.i64.wrap ((S : Int) + (L : Int)) = (S : Int) + (L : Int) := IntWalk.i64_in _ (by omega)
              have HS2' := hide hbnd
              clear a1 a2 a3 a4 a5 a6 a7 hibR hgdR htk hbnd hL hdr hdr2 hrl hSi
              go_wp2_with fail
              go_loopw [22] (fun kv wq => ∃ kk : Nat, kk ≤ n ∧ kv = .int .i64 kk ∧ Below wi.heap.size wi wq) (fun kv _ => n - (intOf kv).toNat)
              case atStart => exact ⟨0, Nat.zero_le _, rfl, Below.refl _ _⟩
              case round =>
                obtain ⟨kk, hkk, rfl, hb⟩ := hrel
                have HBQ := hide hb
                clear hb
                by_cases hlk : kk < n
                · have hkl : kk < cs.length := by rw [HLN.out]; exact hlk
                  obtain ⟨gL, oL, rfl, hgL, Al, cl, p0, p1, p2, hibL⟩ := (HBTi.out.below HBQ.out (Nat.le_refl _)).at_ kk hkl
                  have hki := HKK.out i hlt kk hkl
                  have hgdL := HGD.out cs[kk] (List.getElem_mem hkl)
                  have HNK := hide (fun (W : World) => rnext_any cs[kk] Al cl cs[kk].recs.length W rfl hgdL.base0 (by have := hgdL.base1; omega) (by have := hgdL.n1; omega))
                  unfold batV at HNK
                  by_cases hkq : kk = q + i
                  · have hcE : cs[kk] = cs[q + i] := by subst hkq; rfl
                    obtain ⟨hibR, hgdR, hdr2, hrl, a3, -⟩ := HHR.out
                    have a4 := HA4.out
                    have a7 := HA7.out
                    rw [← hcE] at hdr2 hrl a3 a4 a7
                    have d1 : decide (cs[kk].base ≤ aF i) = true := decide_eq_true (hki.2 hkq).1
                    have d2 : decide (aF i < cs[kk].base + (cs[kk].recs.length : Nat)) = true := decide_eq_true (hki.2 hkq).2
                    have kc := fun W => run_cut_rec W Al cs[kk].recs.length cl dr (by omega) hibL.le
                    rw [← hrl] at kc
                    have hwd : IntKind.i64.wrap (aF i - cs[kk].base) = (dr : Int) := by rw [hdr2]; exact IntWalk.i64_in _ (by have := hgdL.n1; omega)
                    have HSQ := hide (fun (W : World) (hW : Below wr.heap.size wr W) => sameRecords_eq Ar (cutR Al cl dr) cr' (cl - dr) xs[i].recs.length xs[i].recs W rfl (by have := hgdR.n1; omega) ((hibR.recs.below HBQ.out (Nat.le_refl _)).below hW (Nat.le_refl _)) (by rw [a4]; exact (Recs.cut hibL.recs cl dr a7 hibL.le).below hW (Nat.le_refl _)) (fun r hr => by have := hgdR.recs r hr; omega))
                    rw [← a3] at p1 HNK
                    replace t0 := (HBQ.out.cell (World.block_lt_of_cell? _ _ t0)).trans t0
                    replace t1 := (HBQ.out.cell (World.block_lt_of_cell? _ _ t1)).trans t1
                    replace t2 := (HBQ.out.cell (World.block_lt_of_cell? _ _ t2)).trans t2
                    clear hibR hgdR hdr2 a3 a4 a7 hki hkq hcE hgdL hibL hrl HHR HKK HA1 HA2 HA4 HA7 HXA HOB HNR HSR
                    generalize xs[i].recs.length = rl at *
                    generalize xs[i].epoch = ep at *
                    generalize cs[kk].base = lb at *
                    generalize cs[kk].recs.length = ll at *
                    generalize aF i = ao at *
                    have u1 : (ep != ep) = false := bne_self_eq_false _
                    have u2 : (ao != ao) = false := bne_self_eq_false _
                    go_upto_region 33 with (first
                      | (go_at_call 18; refine (HNK.out wr).mono ?_; rintro e wn ⟨rfl, hb⟩; have HBN := hide hb; replace t0 := (hb.cell (World.block_lt_of_cell? _ _ t0)).trans t0; replace t1 := (hb.cell (World.block_lt_of_cell? _ _ t1)).trans t1; replace t2 := (hb.cell (World.block_lt_of_cell? _ _ t2)).trans t2; replace p0 := (hb.cell (World.block_lt_of_cell? _ _ p0)).trans p0; replace p1 := (hb.cell (World.block_lt_of_cell? _ _ p1)).trans p1; replace p2 := (hb.cell (World.block_lt_of_cell? _ _ p2)).trans p2; clear hb)
                      | fail)
                    refine wp_region_guard (G := fun a b : World => Below a.heap.size a b) ⟨fun w => Below.refl _ w, fun h k => h.trans (k.mono h.size)⟩ [150, 151, 152, 153, 154, 155, 156, 157, 158, 159, 160, 161, 162, 163, 164, 165, 166, 167, 168, 169, 170, 171, 172, 173, 174, 175, 176, 177, 178, 179, 180, 181, 182, 183, 184, 185, 186, 187, 188, 189, 190, 191] (fun d => match d with
    | 150 => .is (.slice (some ⟨gR, oR, none⟩) c cr) | 151 => .is (.int .i64 (i : Int)) | 152 => .is (.pointer (some ⟨gR, oR + i * 3, none⟩)) | 153 => .is (.pointer (some ⟨gR, oR + i * 3 + 2, none⟩)) | 154 => .is (.slice Ar rl cr') | 155 => .is (.slice (some ⟨gL, oL, none⟩) n c2) | 156 => .is (.int .i64 (kk : Int)) | 157 => .is (.pointer (some ⟨gL, oL + kk * 3, none⟩)) | 158 => .is (.pointer (some ⟨gL, oL + kk * 3 + 2, none⟩)) | 159 => .is (.slice Al ll cl) | 160 => .is (.int .i64 ao) | 161 => .is (.slice (some ⟨gL, oL, none⟩) n c2) | 162 => .is (.int .i64 (kk : Int)) | 163 => .is (.pointer (some ⟨gL, oL + kk * 3, none⟩)) | 164 => .is (.pointer (some ⟨gL, oL + kk * 3, none⟩)) | 165 => .is (.int .i64 lb) | 166 => .is (.int .i64 (dr : Int)) | 167 => .is (.slice (cutR Al cl dr) rl (cl - dr)) | 168 => .is (.bool true) | 169 => .is (.bool false) | 170 => .is (.bool false) | 171 => .is (.slice (some ⟨gR, oR, none⟩) c cr) | 172 => .is (.int .i64 (i : Int)) | 173 => .is (.pointer (some ⟨gR, oR + i * 3, none⟩)) | 174 => .is (.pointer (some ⟨gR, oR + i * 3 + 1, none⟩)) | 175 => .is (.int .i64 ep) | 176 => .is (.slice (some ⟨gL, oL, none⟩) n c2) | 177 => .is (.int .i64 (kk : Int)) | 178 => .is (.pointer (some ⟨gL, oL + kk * 3, none⟩)) | 179 => .is (.pointer (some ⟨gL, oL + kk * 3 + 1, none⟩)) | 180 => .is (.int .i64 ep) | 181 => .is (.bool false) | 182 => .is (.bool false) | 183 => .is (.bool false) | 184 => .is (.slice (some ⟨gR, oR, none⟩) c cr) | 185 => .is (.int .i64 (i : Int)) | 186 => .is (.pointer (some ⟨gR, oR + i * 3, none⟩)) | 187 => .is (.pointer (some ⟨gR, oR + i * 3, none⟩)) | 188 => .is (.int .i64 ao) | 189 => .is (.int .i64 ao) | 190 => .is (.bool false) | 191 => .is (.bool false) | _ => .any) (by kernel_rfl) (by kernel_rfl) (by kernel_rfl) ?_ ?_
                    · simp only [StepsG]
                      refine ⟨?_, ?_, ?_, ?_, ?_, ?_, ?_, ?_, ?_, ?_, ?_, ?_, ?_, ?_, ?_, ?_, ?_, ?_, ?_, ?_, ?_, ?_, ?_, ?_, ?_, ?_, ?_, ?_, ?_, ?_, ?_, ?_, ?_, ?_, ?_, ?_, ?_, ?_, ?_, ?_, ?_, ?_, trivial⟩
                      all_goals
                        intro ev w6 hb hev hd
                        have ev14 : ev (.tmp 14) = .slice (some ⟨gR, oR, none⟩) c cr := hev _ (by simp)
                        have ev10 : ev (.tmp 10) = .slice (some ⟨gL, oL, none⟩) n c2 := hev _ (by simp)
                        have ev21 : ev (.tmp 21) = .int .i64 (i : Int) := hev _ (by simp)
                        have ev22 : ev (.tmp 22) = .int .i64 (kk : Int) := hev _ (by simp)
                        have ev20 : ev (.tmp 20) = .int .i64 ao := hev _ (by simp)
                        have evf : ∀ f, ev (.func f) = .func (.func f) #[] #[] := fun f => hev _ (by simp)
                        have evc : ∀ c, ev (.const c) = c := fun c => hev _ (by simp)
                        have HB6 : Hid (Below wn.heap.size wn w6) := hide ((Below.refl wn.heap.size wn).drew.trans hb)
                        have k0 := (HB6.out.cell (World.block_lt_of_cell? _ _ t0)).trans t0
                        have k1 := (HB6.out.cell (World.block_lt_of_cell? _ _ t1)).trans t1
                        have k2 := (HB6.out.cell (World.block_lt_of_cell? _ _ t2)).trans t2
                        have m0 := (HB6.out.cell (World.block_lt_of_cell? _ _ p0)).trans p0
                        have m1 := (HB6.out.cell (World.block_lt_of_cell? _ _ p1)).trans p1
                        have m2 := (HB6.out.cell (World.block_lt_of_cell? _ _ p2)).trans p2
                        clear hev hb
                        simp [DepsG, Held.is] at hd
                        try simp [OpGuard, OpRuns, execOp, go_sem, Held.is, Below.refl, *]
                      exact (HSQ.out w6 (HBN.out.trans (HB6.out.mono HBN.out.size))).mono fun e w'' ⟨he, hb⟩ => ⟨he, hb⟩
                    · intro f w9 hb hf
                      have e191 : f 191 = .bool false := hf 191 (by simp)
                      have HB9 : Hid (Below wn.heap.size wn w9) := hide ((Below.refl wn.heap.size wn).drew.trans hb)
                      clear hf hb
                      simp only [puts, Act.put, List.setIfInBounds_toArray, List.set_cons_succ, List.set_cons_zero]
                      rw [e191]
                      clear e191
                      generalize f 150 = q150
                      generalize f 151 = q151
                      generalize f 152 = q152
                      generalize f 153 = q153
                      generalize f 154 = q154
                      generalize f 155 = q155
                      generalize f 156 = q156
                      generalize f 157 = q157
                      generalize f 158 = q158
                      generalize f 159 = q159
                      generalize f 160 = q160
                      generalize f 161 = q161
                      generalize f 162 = q162
                      generalize f 163 = q163
                      generalize f 164 = q164
                      generalize f 165 = q165
                      generalize f 166 = q166
                      generalize f 167 = q167
                      generalize f 168 = q168
                      generalize f 169 = q169
                      generalize f 170 = q170
                      generalize f 171 = q171
                      generalize f 172 = q172
                      generalize f 173 = q173
                      generalize f 174 = q174
                      generalize f 175 = q175
                      generalize f 176 = q176
                      generalize f 177 = q177
                      generalize f 178 = q178
                      generalize f 179 = q179
                      generalize f 180 = q180
                      generalize f 181 = q181
                      generalize f 182 = q182
                      generalize f 183 = q183
                      generalize f 184 = q184
                      generalize f 185 = q185
                      generalize f 186 = q186
                      generalize f 187 = q187
                      generalize f 188 = q188
                      generalize f 189 = q189
                      generalize f 190 = q190
                      clear f
                      go_wp2_with fail
                      go_roundw
                      case rel => exact ⟨kk + 1, by omega, by go_num, HBQ.out.trans ((HBN.out.trans (HB9.out.mono HBN.out.size)).mono HBQ.out.size)⟩
                      case measure => simp [intOf]; omega
                  · have hno : ¬ (cs[kk].base ≤ aF i ∧ aF i < cs[kk].base + (cs[kk].recs.length : Nat)) := fun h => hkq (hki.1 h)
                    clear hki hkq hgdL hibL HHR HKK HA1 HA2 HA4 HA7 HXA HOB HNR HSR t0 t1 t2
                    generalize cs[kk].base = lb at *
                    generalize cs[kk].epoch = ep at *
                    generalize cs[kk].recs.length = ll at *
                    generalize aF i = ao at *
                    by_cases hb1 : lb ≤ ao
                    · have d1 : decide (lb ≤ ao) = true := decide_eq_true hb1
                      have d2 : decide (ao < lb + (ll : Int)) = false := decide_eq_false (by omega)
                      clear hno hb1
                      go_wp2_with (first
                        | (go_at_call 18; refine (HNK.out wr).mono ?_; rintro e wn ⟨rfl, hb⟩; have HBN := hide hb; clear hb)
                        | fail)
                      go_roundw
                      case rel => exact ⟨kk + 1, by omega, by go_num, HBQ.out.trans (HBN.out.mono HBQ.out.size)⟩
                      case measure => simp [intOf]; omega
                    · have d1 : decide (lb ≤ ao) = false := decide_eq_false hb1
                      clear hno hb1
                      go_wp2_with fail
                      go_roundw
                      case rel => exact ⟨kk + 1, by omega, by go_num, HBQ.out⟩
                      case measure => simp [intOf]; omega
                · obtain rfl : kk = n := by omega
                  replace t0 := (HBQ.out.cell (World.block_lt_of_cell? _ _ t0)).trans t0
                  replace t1 := (HBQ.out.cell (World.block_lt_of_cell? _ _ t1)).trans t1
                  replace t2 := (HBQ.out.cell (World.block_lt_of_cell? _ _ t2)).trans t2
                  generalize xs[i].recs.length = rl at *
                  generalize xs[i].epoch = ep at *
                  go_wp2_with (first
                    | (go_at_call 18; refine (HNR.out wr).mono ?_; rintro e w9 ⟨rfl, hb⟩; have HB9 := hide (HBQ.out.trans (hb.mono HBQ.out.size)); replace t0 := (hb.cell (World.block_lt_of_cell? _ _ t0)).trans t0; replace t1 := (hb.cell (World.block_lt_of_cell? _ _ t1)).trans t1; replace t2 := (hb.cell (World.block_lt_of_cell? _ _ t2)).trans t2; clear hb)
                    | (go_at_call 17; refine (HSR.out w9 HB9.out).mono ?_; rintro e w10 ⟨rfl, hb⟩; have HB10 := hide (HB9.out.trans (hb.mono HB9.out.size)); clear hb)
                    | fail)
                  refine ⟨⟨i + 1, by omega, by simp, rfl, by rw [HTK.out]; simp, HBI.out.trans (HB10.out.mono HBI.out.size)⟩, by simp [intOf]; omega⟩
            · obtain rfl : i = c := by omega
              have hxt : xs.take i = xs := List.take_of_length_le (by rw [HXL.out]; exact Nat.le_refl _)
              rw [hxt]
              have HWB : Hid (Below w.heap.size w wi) := hide ((HB2.out.trans (HB28.out.mono HB2.out.size)).trans ((HBX.out.trans (HBI.out.mono HBX.out.size)).mono (HB2.out.trans (HB28.out.mono HB2.out.size)).size))
              have HW5 : Hid (Below w5.heap.size w5 wi) := hide (HB58.out.trans ((HBX.out.trans (HBI.out.mono HBX.out.size)).mono HB58.out.size))
              have HSB : Hid (Ht.size xs ≤ 2000000) := hide (by
                have h := flat_len_le Rc.bytes 100000 xs fun b hb => bytes_most b (HXG.out b hb)
                have hc20 : i ≤ 20 := by have := HQC.out; have := HLN.out; omega
                rw [HXL.out] at h
                have h2 : 100000 * i ≤ 100000 * 20 := Nat.mul_le_mul_left _ hc20
                unfold Ht.size
                omega)
              generalize Ht.size xs = S at *
              generalize aF i = aC at *
              have hsb := HSB.out
              have hec := HEC.out
              have hdE : decide (EK < aC) = false := decide_eq_false (by omega)
              have hcc : decide ((1 : Int) < (i : Int)) = false ∨ (decide ((1 : Int) < (i : Int)) = true ∧ decide (most < (S : Int)) = false) := by
                rcases HSZ.out with h | h
                · exact .inl (decide_eq_false (by omega))
                · by_cases h1 : (1 : Int) < (i : Int)
                  · exact .inr ⟨decide_eq_true h1, decide_eq_false (by omega)⟩
                  · exact .inl (decide_eq_false h1)
              rcases hec.2.2.2 with hje | hjl
              · have hue : aC = EK := hec.2.1 hje
                subst hue
                have ue : (aC == aC) = true := beq_self_eq_true _
                clear hec hsb hxt hje
                rcases hcc with dc | ⟨dc, dm⟩
                · go_wp2_with fail
                  go_ret
                  exact ⟨rfl, HWB.out⟩
                · go_wp2_with fail
                  go_ret
                  exact ⟨rfl, HWB.out⟩
              · obtain ⟨hlt', hqq⟩ := hec.2.2.1 hjl
                have ue : (aC == EK) = false := by rw [beq_eq_false_iff_ne]; omega
                have HRN := hide (HR2.out wi HW5.out hjl hqq)
                have hmo := HMO.out hjl hqq
                have hgdN := HGD.out cs[q + i] (List.getElem_mem hqq)
                generalize cs[q + i] = bN at *
                have HSN := hide (fun (W : World) (A : Option Addr) (cap : Nat) (h : IsBat W A cap bN) => rsize1_any bN A cap bN.recs.length W h hgdN rfl)
                have HLB := hide (bytes_most bN hgdN)
                have hlb := HLB.out
                generalize (Rc.bytes bN).length = LB at *
                have HMO2 := hide hmo
                unfold batV at HSN
                clear hec hgdN hmo hxt HMO HR2 HLB
                rcases hcc with dc | ⟨dc, dm⟩
                · by_cases hm : most < (S : Int)
                  · have dm : decide (most < (S : Int)) = true := decide_eq_true hm
                    clear HMO2
                    go_wp2_with (first
                      | (go_at_call 24; refine HRN.out.mono ?_; rintro e w9 ⟨v, rfl, ⟨ps, hq9, hp9⟩, hb⟩; obtain ⟨A9, c9, rfl, hc9, hm9, hb9⟩ := hq9.val; have hpl : ps.length = 1 := (by have := congrArg List.length hp9; simpa using this); rw [hpl] at hc9 ⊢; rw [hp9] at hb9; obtain ⟨g9, o9, rfl, hg9, Ax9, cx9, z0, z1, z2, hib9⟩ := hb9.at_ 0 (by simp); simp only [List.getElem_cons_zero, Nat.zero_mul, Nat.add_zero] at z0 z1 z2 hib9; have HI9 := hide hib9; have HB9 := hide (HWB.out.trans (hb.mono HWB.out.size)); clear hq9 hp9 hb hb9 hpl hib9)
                      | (go_at_call 17; refine (HSN.out w9 _ _ HI9.out).mono ?_; rintro e w10 ⟨rfl, hb⟩; have HB10 := hide (HB9.out.trans (hb.mono HB9.out.size)); clear hb)
                      | fail)
                    go_ret
                    exact ⟨rfl, HB9.out⟩
                  · have dm : decide (most < (S : Int)) = false := decide_eq_false hm
                    have hwm : IntKind.i64.wrap (most - (S : Int)) = most - (S : Int) := IntWalk.i64_in _ (by omega)
                    have dl : decide (most - (S : Int) < (LB : Int)) = true := decide_eq_true (by have := HMO2.out; omega)
                    clear HMO2
                    go_wp2_with (first
                      | (go_at_call 24; refine HRN.out.mono ?_; rintro e w9 ⟨v, rfl, ⟨ps, hq9, hp9⟩, hb⟩; obtain ⟨A9, c9, rfl, hc9, hm9, hb9⟩ := hq9.val; have hpl : ps.length = 1 := (by have := congrArg List.length hp9; simpa using this); rw [hpl] at hc9 ⊢; rw [hp9] at hb9; obtain ⟨g9, o9, rfl, hg9, Ax9, cx9, z0, z1, z2, hib9⟩ := hb9.at_ 0 (by simp); simp only [List.getElem_cons_zero, Nat.zero_mul, Nat.add_zero] at z0 z1 z2 hib9; have HI9 := hide hib9; have HB9 := hide (HWB.out.trans (hb.mono HWB.out.size)); clear hq9 hp9 hb hb9 hpl hib9)
                      | (go_at_call 17; refine (HSN.out w9 _ _ HI9.out).mono ?_; rintro e w10 ⟨rfl, hb⟩; have HB10 := hide (HB9.out.trans (hb.mono HB9.out.size)); clear hb)
                      | fail)
                    go_ret
                    exact ⟨rfl, HB10.out⟩
                · have hm : ¬ most < (S : Int) := of_decide_eq_false dm
                  have hwm : IntKind.i64.wrap (most - (S : Int)) = most - (S : Int) := IntWalk.i64_in _ (by omega)
                  have dl : decide (most - (S : Int) < (LB : Int)) = true := decide_eq_true (by have := HMO2.out; omega)
                  clear HMO2
                  go_wp2_with (first
                    | (go_at_call 24; refine HRN.out.mono ?_; rintro e w9 ⟨v, rfl, ⟨ps, hq9, hp9⟩, hb⟩; obtain ⟨A9, c9, rfl, hc9, hm9, hb9⟩ := hq9.val; have hpl : ps.length = 1 := (by have := congrArg List.length hp9; simpa using this); rw [hpl] at hc9 ⊢; rw [hp9] at hb9; obtain ⟨g9, o9, rfl, hg9, Ax9, cx9, z0, z1, z2, hib9⟩ := hb9.at_ 0 (by simp); simp only [List.getElem_cons_zero, Nat.zero_mul, Nat.add_zero] at z0 z1 z2 hib9; have HI9 := hide hib9; have HB9 := hide (HWB.out.trans (hb.mono HWB.out.size)); clear hq9 hp9 hb hb9 hpl hib9)
                    | (go_at_call 17; refine (HSN.out w9 _ _ HI9.out).mono ?_; rintro e w10 ⟨rfl, hb⟩; have HB10 := hide (HB9.out.trans (hb.mono HB9.out.size)); clear hb)
                    | fail)
                  go_ret
                  exact ⟨rfl, HB10.out⟩
  · have hnc : (20 : Int) < (n : Int) := by omega
    clear hs hs2 ht hpt hA hz hn
    go_enter Tryz.func4, Tryz.ntmps4
    go_wp2_with (first
      | (go_at_call 12; refine HF.out.mono ?_; rintro e w1 ⟨rfl, hb⟩; have HB1 := hide hb; clear hb)
      | fail)
    go_ret
    exact ⟨rfl, HB1.out⟩
end Go.Proofs.YtcmgppacipdnaaaGreatDoor
