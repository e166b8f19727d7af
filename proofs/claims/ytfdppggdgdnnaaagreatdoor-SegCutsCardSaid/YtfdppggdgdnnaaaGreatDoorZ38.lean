/-
  SegCuts walked.
-/
import Derived.Test.YtfdppggdgdnnaaaGreatDoorZ37
import Derived.Test.YtfdppggdgdnnaaaGreatDoorZ24
import Derived.Test.YtfdppggdgdnnaaaGreatDoorZ1
import Derived.Test.YtfdppggdgdnnaaaGreatDoorZ7
import Derived.Deep.CutBlock
namespace Go.Proofs.YtfdppggdgdnnaaaGreatDoor
open Go.RowKit Go.Maps Go.Sort

/-- Which batch was found so far: the j-th. -/
def fnd (j i : Nat) : Int := if j < i then j else -1
theorem fnd_zero (j : Nat) : fnd j 0 = -1 := rfl
theorem fnd_hit (j : Nat) : fnd j (j + 1) = j := by unfold fnd; rw [if_pos (by omega)]
theorem fnd_miss (j i : Nat) (h : i ≠ j) : fnd j (i + 1) = fnd j i := by
  unfold fnd
  by_cases h1 : j < i
  · rw [if_pos (by omega), if_pos h1]
  · rw [if_neg (by omega), if_neg h1]
theorem fnd_none (j i : Nat) (h : i ≤ j) : fnd j i = -1 := by unfold fnd; rw [if_neg (by omega)]
theorem fnd_some (j i : Nat) (h : j < i) : fnd j i = j := by unfold fnd; rw [if_pos h]

set_option maxRecDepth 100000 in
set_option maxHeartbeats 4000000 in
theorem segCuts_any (w : World) (p : Nat → Addr) (ha : Sents w p) (ht : Tabs w) (hpt : PowTab w) (Az : Option Addr) (cz nz : Nat) (zs : List Int) (at_ : Int) (Ap : Option Addr) (cp np : Nat) (ps : List Int) (hnz : zs.length = nz) (hz : Ints w Az zs) (hzb : ∀ k, k < zs.length → -9223372036854775808 ≤ zs.getD k 0 ∧ zs.getD k 0 ≤ 9223372036854775807) (hat : -9223372036854775808 ≤ at_ ∧ at_ ≤ 9223372036854775807) (hnp : ps.length = np) (hp : IntsArg w Ap cp ps) :
    Calls Tryz.prog 7 #[.slice Az nz cz, .int .i64 at_, .slice Ap np cp] w fun e w' => e = .returned (.bool true) ∧ Below w.heap.size w w' := by
  have hs : SentsG w p := ha.mono fun j hj => by omega
  have HSA := hide ha
  have HFI := hide (segFirst_any w p hs ht hpt)
  have HS := hide hs
  have HT := hide ht
  have HPT := hide hpt
  have HZ := hide hz
  have HNZ := hide hnz
  have HNP := hide hnp
  have HP := hide hp
  clear hs ha ht hpt hz hnz hnp hp
  by_cases lz : 20 < nz
  · go_enter Tryz.func7, Tryz.ntmps7
    go_wp2_with (first
      | (go_at_call 9; refine HFI.out.mono ?_; rintro e w1 ⟨rfl, hb1⟩; have HB1 := hide hb1; clear hb1)
      | fail)
    go_ret
    exact ⟨rfl, HB1.out⟩
  have dnz : decide ((20 : Int) < nz) = false := decide_eq_false (by omega)
  by_cases lp : 5 < np
  · go_enter Tryz.func7, Tryz.ntmps7
    go_wp2_with (first
      | (go_at_call 9; refine HFI.out.mono ?_; rintro e w1 ⟨rfl, hb1⟩; have HB1 := hide hb1; clear hb1)
      | fail)
    go_ret
    exact ⟨rfl, HB1.out⟩
  have dnp : decide ((5 : Int) < np) = false := decide_eq_false (by omega)
  have h00 : (0 : Int) ≤ 0 ∧ (0 : Int) ≤ 1099511627776 := by omega
  -- the batches
  have HRW := hide (fun (W : World) (hw : Below w.heap.size w W) => row_any 0 Az cz nz 3 zs W HNZ.out (by omega) (by omega) (by omega) (by omega) (HZ.out.below hw (Nat.le_refl _)) hzb)
  have hok := Rw.go_ok zs 0 0 3 (by omega) (by have := HNZ.out; omega) (by have := HNZ.out; omega)
  have hgd : ∀ b ∈ Rw.go ((0 : Nat) : Int) 0 3 zs, Rc.Good b := fun b hb => (hok b hb).1
  have hsm := Rw.go_small zs ((0 : Nat) : Int) 0 3 hgd
  have hch := Rw.go_chain zs ((0 : Nat) : Int) 0 3 (Sg.begin (Nm.seg 0) 0 60) rfl (by decide)
  have HMD := hide (fun (W : World) (hb : Below w.heap.size w W) (A : Option Addr) (cap : Nat) (hbt : Bats W A (Rw.go ((0 : Nat) : Int) 0 3 zs)) => made_any 0 60 A cap nz _ W p (HS.out.below hb) (HT.out.below hb (Nat.le_refl _)) (HPT.out.below hb) (by rw [Rw.go_len]; exact HNZ.out) (by omega) hbt hgd hsm (by omega) (by omega) hch)
  have hgl := Rw.go_len zs ((0 : Nat) : Int) 0 3
  rw [HNZ.out] at hgl
  have HGL := hide hgl
  have HSM := hide hsm
  have HGD := hide hgd
  have HCH := hide hch
  clear hok hgd hsm hch hgl hzb
  generalize Rw.go ((0 : Nat) : Int) 0 3 zs = cs at *
  go_enter Tryz.func7, Tryz.ntmps7
  go_upto_region 8 with (first
    | (go_at_call 9; refine HFI.out.mono ?_; rintro e w1 ⟨rfl, hb1⟩; have HB1 := hide hb1; clear hb1 HFI)
    | (go_at_call 12; refine (HRW.out w1 HB1.out).mono ?_; rintro e w2 ⟨⟨A2, c2, rfl, hc2, hm2, hbt2⟩, hb2⟩; have HB2 := hide (HB1.out.trans (hb2.mono HB1.out.size)); have HBT := hide hbt2; clear hbt2 hb2 HRW)
    | (go_at_call 13; refine (HMD.out w2 HB2.out A2 c2 HBT.out).mono ?_; rintro e w3 ⟨Bd, X, S, T, d, s, x, rfl, hw3, hm3⟩; have HW3 := hide hw3; have HM3 := hide hm3.mz; clear hw3 hm3 HMD)
    | fail)
  obtain ⟨d1, s1, hsy1, hm1, hfx1, -, hed1⟩ := HM3.out.sync
  have hcs := sgSync_any w2 w3 S T _ Bd X d s p HW3.out (HS.out.below HB2.out) (by omega)
  rw [hsy1] at hcs
  simp only [errR] at hcs
  have HSY := hide hcs
  have HM1 := hide hm1
  have hsyn : (d1.files x).synced = ((cs.take cs.length).flatMap Rc.bytes).length := by
    obtain ⟨z, hz⟩ := HM3.out
    rw [hfx1, List.take_length]
    show (d.files x).bytes.length = _
    rw [hz.bytes]
  have hok1 := HW3.out.ok.off _ (Sg.last_mem HW3.out.ok.ne)
  rw [← hed1] at hok1
  clear hcs hsy1 hm1 hfx1 hed1 HM3
  obtain ⟨E, hE⟩ : ∃ E, E = (Sg.last s1.edges).off := ⟨_, rfl⟩
  rw [← hE] at hok1
  have hEL := HM1.out.edLast
  have HE := hide hE
  have m1 := Int.emod_nonneg at_ (show E + 3 ≠ 0 by omega)
  have m2 := Int.emod_lt_of_pos at_ (show 0 < E + 3 by omega)
  have HLG := hide (fun (W : World) => long_any at_ (E + 3) W (by omega) (by omega) hat.1 hat.2)
  obtain ⟨o1, hO⟩ : ∃ o1, o1 = at_ % (E + 3) := ⟨_, rfl⟩
  rw [← hO] at HLG m1 m2
  obtain ⟨o, ho⟩ : ∃ o, o1 - 1 = o := ⟨_, rfl⟩
  have hwo : IntKind.i64.wrap (o1 - 1) = o := by rw [IntKind.wrap_i64]; omega
  have hwe : IntKind.i64.wrap (E + 3) = E + 3 := by rw [IntKind.wrap_i64]; omega
  have hob : -1 ≤ o ∧ o ≤ 1099511627777 := by omega
  -- where the offset lies
  have hfind : ∃ (j0 : Nat) (kz : Int), (∀ (i : Nat) (hi : i < cs.length), i ≠ j0 → cs[i].base ≠ o) ∧ (∀ hi : j0 < cs.length, cs[j0].base = o) ∧ (o = E → kz = cs.length) ∧ (o ≠ E → kz = fnd j0 cs.length) ∧ ((∃ jf : Nat, jf ≤ cs.length ∧ kz = jf ∧ (Sg.ed s1.edges jf).off = o) ∨ (kz = -1 ∧ ∀ j, j ≤ cs.length → (Sg.ed s1.edges j).off ≠ o)) := by
    by_cases hf : ∃ jf, jf ≤ cs.length ∧ (Sg.ed s1.edges jf).off = o
    · obtain ⟨jf, hj, he⟩ := hf
      refine ⟨jf, jf, fun i hi hne hb => ?_, fun hi => ?_, fun h => ?_, fun h => ?_, .inl ⟨jf, hj, rfl, he⟩⟩
      · rw [← HM1.out.edOff i hi] at hb
        rcases Nat.lt_or_ge i jf with h1 | h1
        · have := HM1.out.offs i jf h1 hj; omega
        · have := HM1.out.offs jf i (by omega) (by omega); omega
      · rw [← HM1.out.edOff jf hi]; exact he
      · rcases Nat.lt_or_ge jf cs.length with h1 | h1
        · have := HM1.out.offs jf cs.length h1 (Nat.le_refl _); rw [hEL] at this; omega
        · have : jf = cs.length := by omega
          rw [this]
      · rcases Nat.lt_or_ge jf cs.length with h1 | h1
        · rw [fnd_some _ _ h1]
        · exfalso
          have e1 : jf = cs.length := by omega
          rw [e1, hEL] at he
          omega
    · refine ⟨cs.length, -1, fun i hi _ hb => ?_, fun hi => absurd hi (by omega), fun h => ?_, fun _ => (fnd_none _ _ (Nat.le_refl _)).symm, .inr ⟨rfl, fun j hj he => hf ⟨j, hj, he⟩⟩⟩
      · rw [← HM1.out.edOff i hi] at hb
        exact hf ⟨i, by omega, hb⟩
      · exact absurd ⟨cs.length, Nat.le_refl _, by rw [hEL, h]; exact hE.symm⟩ hf
  obtain ⟨j0, kz, hne0, heq0, hkE, hkN, hfin⟩ := hfind
  have HNE := hide hne0
  have HEQ := hide heq0
  have HKE := hide hkE
  have HKN := hide hkN
  have HFIN := hide hfin
  have HEN := hide (fun (S T : Nat → Prop) (W : World) (n : Nat) (d : Dk.St) (h : SgW w2 S T n Bd d X s1 W) => sgEnd_any X Bd s1 T W h.seg h.ok)
  rw [← hE] at HEN
  have HSYN := hide hsyn
  clear hE hEL hO ho hne0 heq0 hkE hkN hfin hsyn
  go_upto_region 12 with (first
    | (go_at_call 36; refine HSY.out.mono ?_; rintro e w4 ⟨rfl, S4, T4, hh4, -, -⟩; have H4 := hide hh4; clear hh4 HSY)
    | (go_at_call 23; refine (HEN.out S4 T4 w4 _ d1 H4.out).mono ?_; rintro e w5 ⟨rfl, hb5⟩; have H5 := hide (H4.out.grow hb5); clear hb5 H4)
    | (go_at_call 10; refine (HLG.out w5).mono ?_; rintro e wv ⟨rfl, hwv⟩; obtain rfl : w5 = wv := hwv; clear HLG)
    | fail)
  go_wp2_with fail
  go_loopw [13, 14] (fun kv iv wr => ∃ i : Nat, i ≤ nz ∧ iv = .int .i64 i ∧ kv = .int .i64 (fnd j0 i) ∧ Below w5.heap.size w5 wr) (fun _ iv _ => nz - (intOf iv).toNat)
  case atStart => exact ⟨0, Nat.zero_le _, rfl, by rw [fnd_zero], Below.refl _ _⟩
  case round =>
    obtain ⟨i, hi, rfl, rfl, hbr⟩ := hrel
    have HBR := hide hbr
    clear hbr
    by_cases hlt : i < nz
    · have hic : i < cs.length := by rw [HGL.out]; exact hlt
      obtain ⟨bj, oj, rfl, hbl, Ax, cx, q0, -, -, -⟩ := HBT.out.at_ i hic
      have hw2 := (H5.out.below.trans (HBR.out.mono H5.out.below.size))
      have v0 := (hw2.cell (p := ⟨bj, oj + i * 3, none⟩) hbl).trans q0
      have dln : decide (i < nz) = true := decide_eq_true hlt
      by_cases hij : i = j0
      · obtain rfl : j0 = i := hij.symm
        have hb := HEQ.out hic
        rw [hb] at v0
        have hn := hide (fnd_hit j0)
        clear hij hb q0 hw2
        generalize fnd j0 j0 = f0 at *
        go_wp2_with fail
        go_roundw
        case rel => exact ⟨j0 + 1, by omega, by go_num, by rw [hn.out], HBR.out⟩
        case measure => simp [intOf]; omega
      · have hb := HNE.out i hic hij
        have hn := hide (fnd_miss j0 i hij)
        generalize cs[i].base = xb at *
        have deq : (xb == o) = false := by simp [hb]
        clear q0 hw2
        generalize fnd j0 i = f0 at *
        clear hij
        go_wp2_with fail
        go_roundw
        case rel => exact ⟨i + 1, by omega, by go_num, by rw [hn.out], HBR.out⟩
        case measure => simp [intOf]; omega
    · obtain rfl : i = nz := by omega
      have hke := HKE.out
      have hkn := HKN.out
      rw [HGL.out] at hke hkn
      have HKE2 := hide hke
      have HKN2 := hide hkn
      clear hke hkn HKE HKN
      generalize fnd j0 i = f0 at *
      have dli : decide (i < i) = false := decide_eq_false (by omega)
      go_upto_if 73 with fail
      go_cut [13] from 74 (fun kv wc => kv = .int .i64 kz ∧ wc = wr)
      case first =>
        by_cases hoE : o = E
        · have hkz := HKE2.out hoE
          have deq : (o == E) = true := by simp [hoE]
          go_wp2_with fail
          go_meet
          exact ⟨by rw [hkz], rfl⟩
        · have hkz := HKN2.out hoE
          have deq : (o == E) = false := by simp [hoE]
          go_wp2_with fail
          go_meet
          exact ⟨by rw [hkz], rfl⟩
      case rest =>
        obtain ⟨rfl, rfl⟩ := hcut
        have H6 := hide (H5.out.grow HBR.out)
        clear H5 HBR
        rcases HFIN.out with ⟨jf, hj, hkj, hof⟩ | ⟨hkj, hno⟩
        · obtain ⟨d7, s7, u7, hcu, hm7, hu7, hf7, -, he7⟩ := HM1.out.cutAt jf hj o hof
          have hcc := sgCut_any w2 wc S4 T4 _ Bd X d1 s1 p H6.out (HS.out.below HB2.out) (by omega) o HM1.out.offMono
          rw [hcu] at hcc
          simp only [errR] at hcc
          have HCU := hide hcc
          have HM7 := hide hm7
          have HE7 := hide he7
          have hflj := flat_len_le Rc.bytes 300 (cs.take jf) (fun b hb => HSM.out b (List.mem_of_mem_take hb))
          have htl : (cs.take jf).length = jf := by rw [List.length_take]; omega
          rw [htl] at hflj
          have HFLJ := hide hflj
          have hb7 : (d7.files x).bytes = (cs.take jf).flatMap Rc.bytes := by
            obtain ⟨z, hz⟩ := hm7
            exact hz.bytes
          have HFS := hide (show (d7.files x).synced = ((cs.take jf).flatMap Rc.bytes).length ∧ (d7.files x).bytes = (cs.take jf).flatMap Rc.bytes from ⟨by rw [hf7]; rfl, hb7⟩)
          obtain ⟨hsd, hsc⟩ := hm7.syncedAt jf (by omega) (by rw [List.take_take, Nat.min_self]; exact HFS.out.1)
          have hjl : Sg.ed s7.edges jf = Sg.last s7.edges := by
            have := hm7.edLast
            rwa [htl] at this
          rw [hjl, he7] at hsd
          have HEN7 := hide (fun (S T : Nat → Prop) (W : World) (h : SgW w2 S T (i + 3 + 1 + 1) Bd d7 X s7 W) => sgEnd_any X Bd s7 T W h.seg h.ok)
          have HSY7 := hide (fun (S T : Nat → Prop) (W : World) (h : SgW w2 S T (i + 3 + 1 + 1) Bd d7 X s7 W) => sgSynced_any w2 W S T _ Bd X d7 s7 p h (HS.out.below HB2.out) hm7.posMono hsc)
          rw [he7] at HEN7
          rw [hsd] at HSY7
          rw [HGL.out] at hj
          clear hcu hcc hm7 hu7 hf7 he7 hflj htl hb7 hsd hsc hjl hof
          subst hkj
          go_upto_region 26 with (first
            | (go_at_call 47; refine HCU.out.mono ?_; rintro e w7 ⟨rfl, S7, T7, hh7, -, -⟩; have H7 := hide hh7; clear hh7 HCU)
            | (go_at_call 23; refine (HEN7.out S7 T7 w7 H7.out).mono ?_; rintro e w8 ⟨rfl, hb8⟩; have H8 := hide (H7.out.grow hb8); clear hb8 HEN7)
            | (have _t := H8; go_at_call 37; refine (HSY7.out S7 T7 w8 H8.out).mono ?_; rintro e w9 ⟨rfl, hb9⟩; have H9 := hide (H8.out.grow hb9); clear hb9 HSY7 H7 H8)
            | (go_at_call 38; refine (H9.out.disk.crash (by omega) Ap cp np ps (HP.out.below (HB2.out.trans (H9.out.below.mono HB2.out.size)) (Nat.le_refl _)) HNP.out (fun x o e hne => ⟨fun h => by have := HP.out.lt x o e hne; have := HB2.out.size; have := (H9.out.disk.lo _ h).1; omega, by have := HP.out.lt x o e hne; have := HB2.out.size; have := H9.out.below.size; omega⟩)).mono ?_; rintro e w10 ⟨rfl, ys, ⟨hy, hys⟩, hh10, -⟩; have H10 := hide hh10; have HY := hide (And.intro hy hys); clear hh10 hy hys H9)
            | fail)
          obtain ⟨L, hL1, hL2, hhas, hfx⟩ := HM7.out.has.crash1 ps ys HY.out.1 HY.out.2
          have hm10 := HM7.out.beside hhas HM7.out.nm (by
            rw [hfx]
            show (d7.files x).bytes.take L = _
            exact List.take_of_length_le (by rw [HFS.out.2]; rw [HFS.out.1] at hL1; exact hL1))
          rw [HFS.out.2] at hL2
          obtain ⟨d11, s11, hm11, -, -, -, hop⟩ := sgOpen_mz w2 w10 _ _ Bd _ 0 60 p H10.out (HS.out.below HB2.out) (by omega) h00 (by omega) (HT.out.below HB2.out (Nat.le_refl _)) (HPT.out.below HB2.out) hm10 (by have := HFLJ.out; omega)
          have HOP := hide hop
          have HM11 := hide hm11
          have HL := hide (show (L : Int) ≤ 300 * jf from by have := HFLJ.out; omega)
          have he11 : (Sg.last s11.edges).off = o := by rw [hm11.edges, ← HM7.out.edges]; exact HE7.out
          have HEN11 := hide (fun (X : Nat) (S T : Nat → Prop) (W : World) (n : Nat) (h : SgW w2 S T n Bd d11 X s11 W) => sgEnd_any X Bd s11 T W h.seg h.ok)
          rw [he11] at HEN11
          clear hL1 hL2 hhas hfx hm10 hop hm11 HY H10 he11 HFS
          go_upto_region 29 with (first
            | (go_at_call 40; refine HOP.out.mono ?_; rintro e w11 ⟨X2, S11, T11, rfl, hh11, -, -⟩; have H11 := hide hh11; clear hh11 HOP)
            | (have _t := H11; go_at_call 23; refine (HEN11.out X2 S11 T11 w11 _ H11.out).mono ?_; rintro e w12 ⟨rfl, hb12⟩; have H12 := hide (H11.out.grow hb12); clear hb12 HEN11 H11)
            | fail)
          go_wp2_with fail
          go_loopw [19] (fun qv wr2 => ∃ (q : Nat) (S T : Nat → Prop) (d : Dk.St) (s' : Sg.St), jf ≤ q ∧ q ≤ i ∧ qv = .int .i64 q ∧ SgW w2 S T (i + 10 + q) Bd d X2 s' wr2 ∧ ∃ u, u ≤ 300 * (q : Int) ∧ Mz d s' 1048576 u (Dk.upd (fun _ => none) (Nm.seg 0) (some x)) 0 60 x (cs.take q)) (fun qv _ => i - (intOf qv).toNat)
          case atStart => exact ⟨jf, _, _, _, _, Nat.le_refl _, hj, rfl, H12.out.mono (by omega), _, HL.out, HM11.out⟩
          case round =>
            obtain ⟨q, S, T, d, s', hq0, hq, rfl, hw, u, hu, hm⟩ := hrel
            have HW := hide hw
            have HM := hide hm
            clear hw hm H12 HM11
            have hbw := HW.out.below
            by_cases hqt : q < i
            · have hql : q < cs.length := by rw [HGL.out]; exact hqt
              obtain ⟨bj, oj, rfl, hbl, Ax, cx, q0, q1, q2, hib⟩ := HBT.out.at_ q hql
              have k0 := (hbw.cell (p := ⟨bj, oj + q * 3, none⟩) hbl).trans q0
              have k1 := (hbw.cell (p := ⟨bj, oj + q * 3 + 1, none⟩) hbl).trans q1
              have k2 := (hbw.cell (p := ⟨bj, oj + q * 3 + 2, none⟩) hbl).trans q2
              have hgq := HGD.out cs[q] (List.getElem_mem hql)
              have hlq := HSM.out cs[q] (List.getElem_mem hql)
              have hfq := chain_next HCH.out q hql
              rw [← HM.out.edges] at hfq
              obtain ⟨d', he, hm', -⟩ := HM.out.add cs[q] hgq hfq (by omega)
              have htl : (cs.take q).length = q := by rw [List.length_take]; omega
              have hfl := flat_len_le Rc.bytes 300 (cs.take q) (fun b hb => HSM.out b (List.mem_of_mem_take hb))
              rw [htl] at hfl
              have HAP := hide (sgAppend_any w2 wr S T _ Bd X2 d s' p cs[q] Ax cx cs[q].recs.length HW.out (HS.out.below HB2.out) (HT.out.below HB2.out (Nat.le_refl _)) (by omega) (by rw [HM.out.len, htl]; omega) (by rw [HM.out.pos]; omega) (fun W hcW => hib.below (HW.out.cellW hcW) (Nat.le_refl _)) rfl (fun _ => by omega))
              rw [he] at HAP
              simp only [errR] at HAP
              rw [← List.take_succ_eq_append_getElem hql] at hm'
              have HM' := hide hm'
              have HUL := hide (show u + ((Rc.bytes cs[q]).length : Nat) ≤ 300 * ((q + 1 : Nat) : Int) from by omega)
              clear q0 q1 q2 hib hgq hlq hfq he hm' htl hfl
              generalize s'.add cs[q] (Rc.bytes cs[q]).length = s9 at *
              generalize (Rc.bytes cs[q]).length = Lq at *
              generalize cs[q] = b at *
              unfold batV at HAP
              have dq : decide (q < i) = true := decide_eq_true hqt
              go_wp2_with (first
                | (go_at_call 34; refine HAP.out.mono ?_; rintro e w13 ⟨rfl, S13, T13, hh13, -⟩; have H13 := hide hh13; clear hh13 HAP)
                | fail)
              go_roundw
              case rel => exact ⟨q + 1, S13, T13, d', s9, by omega, by omega, by go_num, H13.out, _, HUL.out, HM'.out⟩
              case measure => simp [intOf]; omega
            · obtain rfl : q = i := by omega
              have htk : cs.take q = cs := List.take_of_length_le (by rw [HGL.out]; exact Nat.le_refl _)
              have he : (Sg.last s'.edges).off = E := by
                have h1 := HM.out.edges
                rw [htk] at h1
                rw [h1, ← HM1.out.edges]
                exact HE.out.symm
              have HEF := hide (sgEnd_any X2 Bd s' T wr HW.out.seg HW.out.ok)
              rw [he] at HEF
              have HBW := hide hbw
              clear htk he hbw
              go_wp2_with (first
                | (go_at_call 23; refine HEF.out.mono ?_; rintro e w14 ⟨rfl, hb14⟩; have HB14 := hide hb14; clear hb14)
                | fail)
              go_ret
              exact ⟨by simp, HB2.out.trans ((HBW.out.trans (HB14.out.mono HBW.out.size)).mono HB2.out.size)⟩
        · have hcu := HM1.out.cutNo o hno
          have hcc := sgCut_any w2 wc S4 T4 _ Bd X d1 s1 p H6.out (HS.out.below HB2.out) (by omega) o HM1.out.offMono
          rw [hcu] at hcc
          simp only [errR] at hcc
          have HCU := hide hcc
          subst hkj
          have HEN7 := hide (fun (S T : Nat → Prop) (W : World) (h : SgW w2 S T (i + 3 + 1 + 1) Bd d1 X s1 W) => HEN.out S T W _ d1 h)
          have HIS := hide (fun (W : World) (hw : Below w.heap.size w W) => is_sent W p (HSA.out.below hw) 14 (by omega) 115)
          unfold errV at HCU HIS
          clear hcu hcc hno
          go_wp2_with (first
            | (go_at_call 47; refine HCU.out.mono ?_; rintro e w7 ⟨rfl, S7, T7, hh7, -, -⟩; have H7 := hide hh7; clear hh7 HCU)
            | (go_at_call 29; refine (HIS.out w7 (HB2.out.trans (H7.out.below.mono HB2.out.size))).mono ?_; rintro e w8 ⟨he, hb8⟩; rw [decide_eq_true (by decide)] at he; subst he; have H8 := hide (H7.out.grow hb8); clear hb8)
            | (have _t := H8; go_at_call 23; refine (HEN7.out S7 T7 w8 H8.out).mono ?_; rintro e w9 ⟨rfl, hb9⟩; have H9 := hide (H8.out.grow hb9); clear hb9 HEN7)
            | fail)
          go_ret
          exact ⟨by simp, HB2.out.trans (H9.out.below.mono HB2.out.size)⟩
end Go.Proofs.YtfdppggdgdnnaaaGreatDoor
