/-
  IndexBack, walked.
-/
import Derived.Test.YteeadlefbehhfaaDoorIxIb
import Derived.Test.YteeadlefbehhfaaDoorIxTw
import Derived.Test.YteeadlefbehhfaaDoorIxSw
import Derived.Test.YteeadlefbehhfaaDoorArgsDo
import Derived.StillTailTactics
namespace Go.Proofs.YteeadlefbehhfaaDoor
open Go.RowKit

theorem IxS.cut {w0 : World} {X : Nat} {s : Ix.St} {w : World} (h : IxS w0 X s w) (p : Int) (hn : s.adds.length ≤ 1000000) (hm : s.marks.length ≤ 1000000) (hi : Ix.InvB s) :
    Calls Tryd.prog 22 #[.pointer (some ⟨X, 0, none⟩), .int .i64 p] w fun r w' => r = .returned (.tuple #[]) ∧ IxS w0 X (s.cut p) w' := by
  obtain ⟨m1, m2⟩ := Ix.cut_mono hi p
  refine (ixCut_any X s _ p w h.ix hm hn (fun k hk => hk.2) m1 m2).mono ?_
  rintro r w' ⟨rfl, hx, hc⟩
  exact ⟨rfl, hx.mono fun k hk => ⟨hk.1, Nat.lt_of_lt_of_le hk.2 hc.size⟩, h.bel.trans (hc.below h.bel.size fun k hk => hk.1), h.ok.cut p⟩
theorem Two.bytesX {w0 : World} {X Y : Nat} {s t : Ix.St} {w : World} (h : Two w0 X Y s t w) (hi : Ix.Inv0 s) (hn : s.marks.length ≤ 4096) (ht : Tabs w) (h4 : 4 ≤ w.heap.size) :
    Calls Tryd.prog 16 #[.pointer (some ⟨X, 0, none⟩)] w fun e w' => ∃ v, e = .returned v ∧ Own w' w.heap.size v (Ix.bytes s) ∧ Below w.heap.size w w' := by
  obtain ⟨S, T, h1, h2, hd⟩ := h.ex
  exact ixBytes_any X s S w h1.ix (by have := h1.ok.every; omega) hn hi.steps ht h4
theorem Two.bytesY {w0 : World} {X Y : Nat} {s t : Ix.St} {w : World} (h : Two w0 X Y s t w) (hm : s.marks = t.marks) (hi : Ix.Inv0 s) (hn : s.marks.length ≤ 4096) (ht : Tabs w) (h4 : 4 ≤ w.heap.size) :
    Calls Tryd.prog 16 #[.pointer (some ⟨Y, 0, none⟩)] w fun e w' => ∃ v, e = .returned v ∧ Own w' w.heap.size v (Ix.bytes t) ∧ Below w.heap.size w w' := by
  obtain ⟨S, T, h1, h2, hd⟩ := h.ex
  exact ixBytes_any Y t T w h2.ix (by have := h2.ok.every; omega) (by rw [← hm]; exact hn) (by rw [← hm]; exact hi.steps) ht h4
theorem bytes_sim {a b : Ix.St} (h : Ix.Sim a b) : Ix.bytes b = Ix.bytes a := by
  unfold Ix.bytes Ix.body
  rw [h.every, h.marks]
/-- The index that was read lies beside the first. -/
theorem two_of {w0 : World} {X Y : Nat} {s t : Ix.St} {w w' : World} (h : IxS w0 X s w) (hy : IxAt w' Y t (fun k => w.heap.size ≤ k ∧ k < w'.heap.size)) (hb : Below w.heap.size w w') (hok : Ix.Ok t) : Two w0 X Y s t w' := by
  have hz := h.bel.size
  exact ⟨_, _, ⟨(h.ix.same fun k _ hk => hb.block k hk), fun k hk => ⟨hk.1, Nat.lt_of_lt_of_le hk.2 hb.size⟩, h.bel.trans (hb.mono hz), h.ok⟩, ⟨hy, fun k hk => ⟨by omega, hk.2⟩, h.bel.trans (hb.mono hz), hok⟩, fun k h1 h2 => by have := h1.2; have := h2.1; omega⟩

set_option maxRecDepth 100000 in
set_option maxHeartbeats 4000000 in
theorem ixBack_any (w : World) (p : Nat → Addr) (hs : SentsI w p) (ht : Tabs w) (hz4 : 4 ≤ w.heap.size) (e0 : Int) (he : -9223372036854775808 ≤ e0 ∧ e0 ≤ 9223372036854775807) (A : Option Addr) (cap n : Nat) (xs : List ToldV) (hn : xs.length = n) (hc : n ≤ cap) (hmx : cap ≤ 9223372036854775807) (hA : Tolds w A xs) (hz : ∀ k, k < xs.length → ToldOk (xs.getD k default)) (A2 : Option Addr) (cap2 n2 : Nat) (ys : List ToldV) (hn2 : ys.length = n2) (hc2 : n2 ≤ cap2) (hmx2 : cap2 ≤ 9223372036854775807) (hA2 : Tolds w A2 ys) (hz2 : ∀ k, k < ys.length → ToldOk (ys.getD k default)) :
    Calls Tryd.prog 5 #[.int .i64 e0, .slice A n cap, .slice A2 n2 cap2] w fun e w' => e = .returned (.bool true) ∧ Below w.heap.size w w' := by
  have hs4 : Sent4 w p := hs.mono fun j hj => by omega
  have HF := hide (firstI_any w p hs4)
  have HS4 := hide hs4
  have HS := hide hs
  have HT := hide ht
  have HNE := hide (fun V => number_any e0 300 V (by omega) (by omega) he.1 he.2)
  have hwe : IntKind.i64.wrap (e0 % 300 + 1) = e0 % 300 + 1 := by rw [IntKind.wrap_i64]; omega
  by_cases h40 : 40 < n
  · have d0 : decide (40 < n) = true := decide_eq_true h40
    have d0' : decide ((40 : Int) < n) = true := decide_eq_true (by omega)
    clear hA hz hn hA2 hz2 hn2 hs he ht
    go_enter Tryd.func5, Tryd.ntmps5
    go_wp2_with (first
      | (go_at_call 9; refine HF.out.mono ?_; rintro e w1 ⟨rfl, hb⟩; have HB1 := hide hb; clear hb)
      | (go_at_call 17; refine (HNE.out _).mono ?_; rintro e w3 ⟨rfl, e⟩; subst e)
      | fail)
    go_ret
    exact ⟨rfl, HB1.out⟩
  · have d0 : decide (40 < n) = false := decide_eq_false h40
    have d0' : decide ((40 : Int) < n) = false := decide_eq_false (by omega)
    by_cases h20 : 20 < n2
    · have d1 : decide (20 < n2) = true := decide_eq_true h20
      have d1' : decide ((20 : Int) < n2) = true := decide_eq_true (by omega)
      clear hA hz hn hA2 hz2 hn2 hs he ht
      go_enter Tryd.func5, Tryd.ntmps5
      go_wp2_with (first
        | (go_at_call 9; refine HF.out.mono ?_; rintro e w1 ⟨rfl, hb⟩; have HB1 := hide hb; clear hb)
        | (go_at_call 17; refine (HNE.out _).mono ?_; rintro e w3 ⟨rfl, e⟩; subst e)
        | fail)
      go_ret
      exact ⟨rfl, HB1.out⟩
    · have d1 : decide (20 < n2) = false := decide_eq_false h20
      have d1' : decide ((20 : Int) < n2) = false := decide_eq_false (by omega)
      obtain ⟨ev, hev⟩ : ∃ ev, ev = e0 % 300 + 1 := ⟨_, rfl⟩
      have heb : 1 ≤ ev ∧ ev ≤ 300 := by omega
      obtain ⟨r0, hr0⟩ : ∃ r0, r0 = e0 % 300 := ⟨_, rfl⟩
      rw [← hr0] at hwe HNE hev
      replace hwe : IntKind.i64.wrap (r0 + 1) = ev := by rw [hwe, hev]
      have hn40 : n ≤ 40 := by omega
      have hn20 : n2 ≤ 20 := by omega
      have HZ := hide hz
      have HN := hide hn
      have HA := hide hA
      have HZ2 := hide hz2
      have HN2 := hide hn2
      have HA2 := hide hA2
      clear hA hz hn hA2 hz2 hn2 hs he ht hev hr0 h40 h20 hmx hmx2
      go_enter Tryd.func5, Tryd.ntmps5
      go_wp2_with (first
        | (go_at_call 9; refine HF.out.mono ?_; rintro e w1 ⟨rfl, hb⟩; have HNW := hide (new_ixS w ev w1 hb (by omega)); clear hb)
        | (go_at_call 18; refine HNW.out.mono ?_; rintro e w2 ⟨rfl, hi⟩; have I2 := hide hi; clear hi HNW)
        | (go_at_call 17; refine (HNE.out _).mono ?_; rintro e w3 ⟨rfl, e⟩; subst e)
        | fail)
      obtain ⟨X, hX⟩ : ∃ X, X = w1.heap.size := ⟨_, rfl⟩
      rw [← hX] at I2 ⊢
      clear hX d0 d1 d0' d1'
      go_loopw [10] (fun iv wr => ∃ (i : Nat) (s : Ix.St), i ≤ n ∧ iv = .int .i64 i ∧ Ix.InvB s ∧ s.every = ev ∧ s.adds.length ≤ i ∧ s.marks.length ≤ i ∧ IxS w X s wr) (fun iv _ => n - (intOf iv).toNat)
      case atStart => exact ⟨0, _, Nat.zero_le _, rfl, Ix.InvB.new ev (by omega), rfl, Nat.zero_le _, Nat.zero_le _, I2.out⟩
      case round =>
        obtain ⟨i, s, hi, rfl, hinv, hev, hla, hlm, hr⟩ := hrel
        have I := hide hr
        have HINV := hide hinv
        clear hr hinv
        by_cases hin : i < n
        · obtain ⟨b, off, rfl, hbl, hat⟩ : ∃ b off, A = some ⟨b, off, none⟩ ∧ b < w.heap.size ∧ ToldAt w b (off + i * 5) (xs.getD i default) := by
            rcases HA.out with e | ⟨b, off, e, hb, hc'⟩
            · have := HN.out; rw [e] at this; simp at this; omega
            · exact ⟨b, off, e, hb, hc' i (by rw [HN.out]; exact hin)⟩
          obtain ⟨x, hx⟩ : ∃ x, x = xs.getD i default := ⟨_, rfl⟩
          rw [← hx] at hat
          have k1 := (I.out.bel.cell (p := ⟨b, off + i * 5 + 1, none⟩) hbl).trans hat.c1
          have k2 := (I.out.bel.cell (p := ⟨b, off + i * 5 + 2, none⟩) hbl).trans hat.c2
          have k3 := (I.out.bel.cell (p := ⟨b, off + i * 5 + 3, none⟩) hbl).trans hat.c3
          have k4 := (I.out.bel.cell (p := ⟨b, off + i * 5 + 4, none⟩) hbl).trans hat.c4
          obtain ⟨xk, xp, xz, xo, xt⟩ := x
          simp only at k1 k2 k3 k4
          have HADX := hide (fun (W : World) (hb : Below wr.heap.size wr W) => (I.out.below hb).add p HS4.out xo xt xp xz (by omega) (by omega))
          have HIN := hide (HINV.out.add xo xt xp xz)
          have HEV : Hid ((Ix.add s xo xt xp xz).2.every = ev) := hide (by unfold Ix.add; split; exact hev; exact hev)
          have HLN := hide (Ix.add_lens s xo xt xp xz)
          have dn : decide (i < n) = true := decide_eq_true hin
          have hip : decide ((i : Int) < n) = true := decide_eq_true (by omega)
          clear hx hat
          go_upto_region 13 with fail
          go_still_tail 21, (by kernel_rfl)
          change wpList _ _ _ _ _ wr.drew
          go_wp2_with (first
            | (go_at_call 19; refine (HADX.out _ (Below.refl _ _).drew).mono ?_; rintro e w5 ⟨rfl, h5⟩; have I5 := hide h5; clear h5)
            | fail)
          go_roundw
          case rel => exact ⟨i + 1, _, by omega, by go_num, HIN.out, HEV.out, by have := HLN.out; omega, by have := HLN.out; omega, I5.out⟩
          case measure => simp [intOf]; omega
        · obtain rfl : i = n := by omega
          have dn : decide (i < i) = false := decide_eq_false hin
          have HMK := hide (marks_any X s _ wr (by omega) I.out.ix)
          have HCB := hide (Ix.cut_back HINV.out)
          have HLL := hide (And.intro hla hlm)
          have HEV := hide hev
          have HTW := hide (fun (W : World) (hb : Below w.heap.size w W) => HT.out.below hb (Nat.le_refl _))
          have HSI : Hid (∀ W, Below w.heap.size w W → SentsI W p) := hide (fun W hb => HS.out.below hb)
          have HBA : Hid (Ix.backAt s = match s.marks.getLast? with | some m => m.pos + 1 | none => 0) := hide rfl
          clear hin HZ HN HA HF HNE
          go_upto_region 15 with (first
            | (go_at_call 14; refine HMK.out.mono ?_; rintro e w3 ⟨v3, rfl, hv, hb⟩; obtain ⟨A3, c3, rfl, hma⟩ := marks_at hv; have HMA := hide hma; have I3 := hide (I.out.below hb); clear hv hb hma)
            | fail)
          have HCT := hide (I3.out.cut (Ix.backAt s) (by omega) (by omega) HINV.out)
          have hcm := HMA.out.le
          obtain ⟨nm, hnm⟩ : ∃ nm, nm = s.marks.length := ⟨_, rfl⟩
          rw [← hnm] at hcm ⊢
          have HNM := hide hnm
          clear hnm
          go_upto_if 79 with (fail)
          go_cut [11, 80] from 79 (fun _ _ wx => IxS w X (s.cut (Ix.backAt s)) wx)
          case first =>
            by_cases h0 : nm = 0
            · have hz0 : Ix.backAt s = 0 := by
                rw [HBA.out, List.eq_nil_of_length_eq_zero (HNM.out.symm.trans h0)]; rfl
              rw [hz0] at HCT
              have HZ0 := hide hz0
              have dL : decide (0 < nm) = false := decide_eq_false (by omega)
              have dL' : decide ((0 : Int) < nm) = false := decide_eq_false (by omega)
              have hnp : ¬ 0 < nm := by omega
              clear hz0 h0
              go_wp2_with (first
                | (go_at_call 22; refine HCT.out.mono ?_; rintro e w4 ⟨rfl, h4⟩; have I4 := hide h4; clear h4)
                | fail)
              go_meet
              rw [HZ0.out]; exact I4.out
            · obtain ⟨L, hL⟩ : ∃ L, s.marks.length = L + 1 := ⟨s.marks.length - 1, by have := HNM.out; omega⟩
              obtain ⟨g3, rfl, -, -, -, m2⟩ := HMA.out.at_ L (by omega)
              have hlast : s.marks.getLast? = some (s.marks.getD L Ix.z0) := by
                rw [List.getLast?_eq_getElem?, hL, Nat.add_sub_cancel, List.getElem?_eq_getElem (by omega)]
                simp [List.getD, hL]
              have hbk : Ix.backAt s = (s.marks.getD L Ix.z0).pos + 1 := by rw [HBA.out, hlast]
              have hpos := (HINV.out.ok.marks _ (List.mem_of_getLast? hlast)).2.2
              unfold Ix.okP at hpos
              generalize (s.marks.getD L Ix.z0).pos = q at *
              have hwq : IntKind.i64.wrap (q + 1) = q + 1 := by rw [IntKind.wrap_i64]; omega
              have hnL : nm = L + 1 := HNM.out.trans hL
              have hwL : IntKind.i64.wrap ((nm : Int) - 1) = (L : Int) := by rw [hnL, IntKind.wrap_i64]; omega
              rw [hbk] at HCT
              have HBK := hide hbk
              have dL : decide (0 < nm) = true := decide_eq_true (by omega)
              have dL' : decide ((0 : Int) < nm) = true := decide_eq_true (by omega)
              have hLn : L < nm := by omega
              have hnp : 0 < nm := by omega
              clear hlast hbk h0 hpos hL hnL
              go_wp2_with (first
                | (go_at_call 22; refine HCT.out.mono ?_; rintro e w4 ⟨rfl, h4⟩; have I4 := hide h4; clear h4)
                | fail)
              go_meet
              rw [HBK.out]; exact I4.out
          case rest =>
            have hix := hcut
            clear hcut HCT HMA HMK HBA hcm I3 HNM
            rename World => wc
            obtain ⟨c1, c2, c3⟩ := HCB.out
            obtain ⟨s2, hs2⟩ : ∃ s2, s2 = s.cut (Ix.backAt s) := ⟨_, rfl⟩
            have he2 : s2.every = s.every := by rw [hs2]; rfl
            have hla2 : s2.adds.length ≤ 40 := by
              rw [hs2]
              show (s.adds.take _).length ≤ _
              rw [List.length_take]; have := HLL.out; omega
            rw [← hs2] at c1 c2 c3 hix
            have hlm2 : s2.marks.length ≤ 40 := by rw [c1]; have := HLL.out; omega
            have I5 := hide hix
            have HC2 := hide c2
            have HC3 := hide c3
            have HE2 := hide (And.intro he2 c1)
            have HL2 := hide (And.intro hla2 hlm2)
            have hbw := I5.out.bel.size
            have HBY := hide (ixBytes_any X s2 _ wc I5.out.ix (by rw [he2, HEV.out]; omega) (by omega) c3.steps (HTW.out _ I5.out.bel) (by omega))
            have hlb := bytes_le c3 (by omega)
            have HOK : Hid (Ix.Ok (Ix.ofMarks s2.every s2.marks)) := hide (Ix.ok_ofMarks c3.ok (fun _ _ => trivial))
            rw [← c1, ← he2] at c2
            have HSM := hide c2
            clear hs2 c1 c2 c3 he2 hla2 hix hla hlm hev HCB HC2
            obtain ⟨lb, hlbe⟩ : ∃ lb, lb = (Ix.bytes s2).length := ⟨_, rfl⟩
            rw [← hlbe] at hlb
            have HLB := hide hlbe.symm
            clear hlbe
            go_wp2_with (first
              | (go_at_call 16; refine HBY.out.mono ?_; rintro e w6 ⟨v6, rfl, ho6, hb6⟩; obtain ⟨A6, c6, rfl, ha6⟩ := ho6.arg; have I6 := hide (I5.out.below hb6); rw [HLB.out]; have HRO := hide (ixRead_own A6 c6 lb s2 w6 p HLB.out HC3.out (by omega) (by omega) ha6 (HTW.out _ I6.out.bel) (HSI.out _ I6.out.bel)); clear ho6 hb6 ha6)
              | (go_at_call 10; refine HRO.out.mono ?_; rintro e w7 ⟨Y, rfl, hy, hb⟩; have T7 := hide (two_of I6.out hy hb HOK.out); clear hy hb)
              | fail)
            clear HBY HRO I5 I6 hlb hbw HLL HINV HLB
            go_loopw [14, 15, 16] (fun iv _ _ wr => ∃ (k : Nat) (a b : Ix.St), k ≤ n2 ∧ iv = .int .i64 k ∧ Ix.Sim a b ∧ Ix.Inv0 a ∧ a.marks.length ≤ 40 + k ∧ a.adds.length ≤ 40 + k ∧ b.adds.length ≤ 40 + k ∧ Two w X Y a b wr) (fun iv _ _ _ => n2 - (intOf iv).toNat)
            case atStart => exact ⟨0, s2, _, Nat.zero_le _, rfl, HSM.out, HC3.out, HL2.out.2, HL2.out.1, by show (s2.marks.map _).length ≤ _; rw [List.length_map]; exact HL2.out.2, T7.out⟩
            case round =>
              obtain ⟨k, a, b, hk, rfl, hsim, hia, hma, haa, hab, hT⟩ := hrel
              have HTT := hide hT
              have HSIM := hide hsim
              have HIA0 := hide hia
              have hmb : b.marks.length ≤ 40 + k := by rw [← hsim.marks]; exact hma
              clear hT hsim hia
              by_cases hkn : k < n2
              · obtain ⟨b0, off, rfl, hbl, hat⟩ : ∃ b0 off, A2 = some ⟨b0, off, none⟩ ∧ b0 < w.heap.size ∧ ToldAt w b0 (off + k * 5) (ys.getD k default) := by
                  rcases HA2.out with e | ⟨b0, off, e, hb, hc'⟩
                  · have := HN2.out; rw [e] at this; simp at this; omega
                  · exact ⟨b0, off, e, hb, hc' k (by rw [HN2.out]; exact hkn)⟩
                obtain ⟨x, hx⟩ : ∃ x, x = ys.getD k default := ⟨_, rfl⟩
                rw [← hx] at hat
                have k1 := (HTT.out.bel.cell (p := ⟨b0, off + k * 5 + 1, none⟩) hbl).trans hat.c1
                have k2 := (HTT.out.bel.cell (p := ⟨b0, off + k * 5 + 2, none⟩) hbl).trans hat.c2
                have k3 := (HTT.out.bel.cell (p := ⟨b0, off + k * 5 + 3, none⟩) hbl).trans hat.c3
                have k4 := (HTT.out.bel.cell (p := ⟨b0, off + k * 5 + 4, none⟩) hbl).trans hat.c4
                obtain ⟨xk, xp, xz, xo, xt⟩ := x
                simp only at k1 k2 k3 k4
                have HX := hide (fun (W : World) (hb : Below wr.heap.size wr W) => (HTT.out.below hb).addX p HS4.out xo xt xp xz (by omega) (by omega))
                have HYY := hide (fun (W : World) (hT : Two w X Y (Ix.add a xo xt xp xz).2 b W) => hT.addY p HS4.out xo xt xp xz (by omega) (by omega))
                have HSA := hide (HSIM.out.add xo xt xp xz)
                have HIA := hide (HIA0.out.add xo xt xp xz)
                have HLA := hide (Ix.add_lens a xo xt xp xz)
                have HLB2 := hide (Ix.add_lens b xo xt xp xz)
                have dn : decide (k < n2) = true := decide_eq_true hkn
                have dn' : decide ((k : Int) < n2) = true := decide_eq_true (by omega)
                rw [← HSA.out.1] at HYY
                clear hx
                obtain ⟨c, hc⟩ : ∃ c, c = (Ix.add a xo xt xp xz).1 := ⟨_, rfl⟩
                rw [← hc] at HX HYY
                clear hc
                cases c with
                | none =>
                  simp only [errR] at HX HYY
                  go_upto_region 24 with fail
                  go_still_tail 21, (by kernel_rfl)
                  change wpList _ _ _ _ _ wr.drew
                  go_upto_region 25 with (first
                    | (go_at_call 19; refine (HX.out _ (Below.refl _ _).drew).mono ?_; rintro e w8 ⟨rfl, h8⟩; have T8 := hide h8; clear h8)
                    | fail)
                  have q1 := (T8.out.bel.cell (p := ⟨b0, off + k * 5 + 1, none⟩) hbl).trans hat.c1
                  have q2 := (T8.out.bel.cell (p := ⟨b0, off + k * 5 + 2, none⟩) hbl).trans hat.c2
                  have q3 := (T8.out.bel.cell (p := ⟨b0, off + k * 5 + 3, none⟩) hbl).trans hat.c3
                  have q4 := (T8.out.bel.cell (p := ⟨b0, off + k * 5 + 4, none⟩) hbl).trans hat.c4
                  simp only at q1 q2 q3 q4
                  have HY := hide (HYY.out _ (T8.out.below (Below.refl _ _).drew))
                  clear k1 k2 k3 k4
                  go_still_tail 21, (by kernel_rfl)
                  change wpList _ _ _ _ _ w8.drew
                  go_upto_region 26 with (first
                    | (go_at_call 19; refine HY.out.mono ?_; rintro e w9 ⟨rfl, h9⟩; have T9 := hide h9; clear h9)
                    | fail)
                  go_quiet (fail)
                  rename Nat => q
                  go_wp2_with fail
                  go_roundw
                  case rel => exact ⟨k + 1, _, _, by omega, by go_num, HSA.out.2, HIA.out, by have := HLA.out; omega, by have := HLA.out; omega, by have := HLB2.out; omega, T9.out.below (below_drewN (Below.refl _ _) _)⟩
                  case measure => simp [intOf]; omega
                | some j =>
                  have hnn : ∀ W, (binOp .eql 26 (errV (p j)) .nilIface).run Tryd.prog W = .ok (.bool false) W := fun W => eqn_nil _ _ W
                  simp only [errR] at HX HYY
                  unfold errV at hnn HX HYY
                  go_upto_region 24 with fail
                  go_still_tail 21, (by kernel_rfl)
                  change wpList _ _ _ _ _ wr.drew
                  go_upto_region 25 with (first
                    | (go_at_call 19; refine (HX.out _ (Below.refl _ _).drew).mono ?_; rintro e w8 ⟨rfl, h8⟩; have T8 := hide h8; clear h8)
                    | fail)
                  have q1 := (T8.out.bel.cell (p := ⟨b0, off + k * 5 + 1, none⟩) hbl).trans hat.c1
                  have q2 := (T8.out.bel.cell (p := ⟨b0, off + k * 5 + 2, none⟩) hbl).trans hat.c2
                  have q3 := (T8.out.bel.cell (p := ⟨b0, off + k * 5 + 3, none⟩) hbl).trans hat.c3
                  have q4 := (T8.out.bel.cell (p := ⟨b0, off + k * 5 + 4, none⟩) hbl).trans hat.c4
                  simp only at q1 q2 q3 q4
                  have HY := hide (HYY.out _ (T8.out.below (Below.refl _ _).drew))
                  clear k1 k2 k3 k4
                  go_still_tail 21, (by kernel_rfl)
                  change wpList _ _ _ _ _ w8.drew
                  go_upto_region 26 with (first
                    | (go_at_call 19; refine HY.out.mono ?_; rintro e w9 ⟨rfl, h9⟩; have T9 := hide h9; clear h9)
                    | fail)
                  go_quiet (fail)
                  rename Nat => q
                  go_wp2_with fail
                  go_roundw
                  case rel => exact ⟨k + 1, _, _, by omega, by go_num, HSA.out.2, HIA.out, by have := HLA.out; omega, by have := HLA.out; omega, by have := HLB2.out; omega, T9.out.below (below_drewN (Below.refl _ _) _)⟩
                  case measure => simp [intOf]; omega
              · obtain rfl : k = n2 := by omega
                have dn : decide (k < k) = false := decide_eq_false hkn
                have hbz := HTT.out.bel.size
                have HB1 := hide (HTT.out.bytesX HIA0.out (by omega) (HTW.out _ HTT.out.bel) (by omega))
                have HB2 := hide (fun (W : World) (hb : Below wr.heap.size wr W) => (HTT.out.below hb).bytesY HSIM.out.marks HIA0.out (by omega) (HTW.out _ (HTT.out.bel.trans (hb.mono hbz))) (by have := hb.size; omega))
                rw [bytes_sim HSIM.out] at HB2
                have hlb := bytes_le HIA0.out (by omega)
                obtain ⟨l, hl⟩ : ∃ l, l = Ix.bytes a := ⟨_, rfl⟩
                rw [← hl] at HB1 HB2 hlb
                obtain ⟨lb, hlbe⟩ : ∃ lb, lb = l.length := ⟨_, rfl⟩
                rw [← hlbe] at hlb
                have HLB := hide hlbe.symm
                clear hl hlbe hkn
                go_wp2_with (first
                  | (go_at_call 16; have _t := B8; refine (HB2.out _ B8.out).mono ?_; rintro e w9 ⟨v9, rfl, ho9, hb9⟩; obtain ⟨A9, c9, rfl, ha9⟩ := ho9.arg; rw [HLB.out]; have B9 := hide (B8.out.trans (hb9.mono B8.out.size)); have HSB := hide (sameBytes_any A8 A9 c8 c9 lb lb l l w9 HLB.out HLB.out (by omega) (by omega) (HA8.out.reads.below hb9 (Nat.le_refl _)) ha9.reads); clear ho9 hb9 ha9)
                  | (go_at_call 16; refine HB1.out.mono ?_; rintro e w8 ⟨v8, rfl, ho8, hb8⟩; obtain ⟨A8, c8, rfl, ha8⟩ := ho8.arg; rw [HLB.out]; have B8 := hide hb8; have HA8 := hide ha8; clear ho8 hb8 ha8)
                  | (go_at_call 15; refine HSB.out.mono ?_; rintro e w10 ⟨rfl, q, rfl⟩)
                  | fail)
                go_ret
                exact ⟨by simp, below_drewN (HTT.out.bel.trans (B9.out.mono hbz)) q⟩
end Go.Proofs.YteeadlefbehhfaaDoor
