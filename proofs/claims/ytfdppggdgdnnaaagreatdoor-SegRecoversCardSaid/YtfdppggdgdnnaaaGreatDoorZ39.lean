/-
  SegRecovers walked.
-/
import Derived.Test.YtfdppggdgdnnaaaGreatDoorZ37
import Derived.Test.YtfdppggdgdnnaaaGreatDoorZ24
import Derived.Test.YtfdppggdgdnnaaaGreatDoorZ7
import Derived.Deep.CutBlock
namespace Go.Proofs.YtfdppggdgdnnaaaGreatDoor
open Go.RowKit Go.Maps Go.Sort

theorem seg3 : encStr (Nm.seg 3) = .string ⟨#[108, 111, 103, 45, 48, 48, 48, 48, 48, 48, 48, 48, 48, 48, 48, 48, 51]⟩ := by
  have e : Nm.seg 3 = [108, 111, 103, 45, 48, 48, 48, 48, 48, 48, 48, 48, 48, 48, 48, 48, 51] := by decide +kernel
  rw [e]

set_option maxRecDepth 100000 in
set_option maxHeartbeats 4000000 in
theorem segRecovers_any (w : World) (p : Nat → Addr) (hs : SentsG w p) (ht : Tabs w) (hpt : PowTab w) (Az : Option Addr) (cz nz : Nat) (zs : List Int) (sy : Int) (Ap : Option Addr) (cp np : Nat) (ps : List Int) (hnz : zs.length = nz) (hz : Ints w Az zs) (hzb : ∀ k, k < zs.length → -9223372036854775808 ≤ zs.getD k 0 ∧ zs.getD k 0 ≤ 9223372036854775807) (hsb : -9223372036854775808 ≤ sy ∧ sy ≤ 9223372036854775807) (hnp : ps.length = np) (hp : IntsArg w Ap cp ps) :
    Calls Tryz.prog 5 #[.slice Az nz cz, .int .i64 sy, .slice Ap np cp] w fun e w' => e = .returned (.bool true) ∧ Below w.heap.size w w' := by
  have HFI := hide (segFirst_any w p hs ht hpt)
  have HS := hide hs
  have HT := hide ht
  have HPT := hide hpt
  have HZ := hide hz
  have HNZ := hide hnz
  have HNP := hide hnp
  have HP := hide hp
  clear hs ht hpt hz hnz hnp hp
  by_cases lz : 20 < nz
  · go_enter Tryz.func5, Tryz.ntmps5
    go_wp2_with (first
      | (go_at_call 9; refine HFI.out.mono ?_; rintro e w1 ⟨rfl, hb1⟩; have HB1 := hide hb1; clear hb1)
      | fail)
    go_ret
    exact ⟨rfl, HB1.out⟩
  have dnz : decide ((20 : Int) < nz) = false := decide_eq_false (by omega)
  by_cases lp : 8 < np
  · go_enter Tryz.func5, Tryz.ntmps5
    go_wp2_with (first
      | (go_at_call 9; refine HFI.out.mono ?_; rintro e w1 ⟨rfl, hb1⟩; have HB1 := hide hb1; clear hb1)
      | fail)
    go_ret
    exact ⟨rfl, HB1.out⟩
  have dnp : decide ((8 : Int) < np) = false := decide_eq_false (by omega)
  have h03 : (0 : Int) ≤ 3 ∧ (3 : Int) ≤ 1099511627776 := by omega
  have hmlt := num_lt sy (nz + 1) (by omega)
  obtain ⟨m, hm⟩ : ∃ m, num sy (nz + 1) = m := ⟨_, rfl⟩
  rw [hm] at hmlt
  have HMM := hide hm
  have hwn : IntKind.i64.wrap ((nz : Int) + 1) = (nz : Int) + 1 := by rw [IntKind.wrap_i64]; omega
  clear hm
  -- the batches
  have HRW := hide (fun (W : World) (hw : Below w.heap.size w W) => row_any 3 Az cz nz 3 zs W HNZ.out (by omega) (by omega) (by omega) (by omega) (HZ.out.below hw (Nat.le_refl _)) hzb)
  have hok := Rw.go_ok zs 3 0 3 (by omega) (by have := HNZ.out; omega) (by have := HNZ.out; omega)
  have hgd : ∀ b ∈ Rw.go ((3 : Nat) : Int) 0 3 zs, Rc.Good b := fun b hb => (hok b hb).1
  have hsm := Rw.go_small zs ((3 : Nat) : Int) 0 3 hgd
  have hch := Rw.go_chain zs ((3 : Nat) : Int) 0 3 (Sg.begin (Nm.seg 3) 3 100) rfl (by show (0 : Int) ≤ _; omega)
  have hgl := Rw.go_len zs ((3 : Nat) : Int) 0 3
  rw [HNZ.out] at hgl
  have HGL := hide hgl
  have HSM := hide hsm
  have HGD := hide hgd
  have HCH := hide hch
  have HLR : Hid (∀ b ∈ Rw.go ((3 : Nat) : Int) 0 3 zs, b.recs.length ≤ 1000000 ∧ ∀ r ∈ b.recs, r.k.length ≤ 1000000 ∧ r.v.length ≤ 1000000) := hide fun b hb => ⟨by have := (hok b hb).2.1; omega, fun r hr => by have := (hok b hb).2.2 r hr; omega⟩
  clear hok hgd hsm hch hgl hzb
  generalize Rw.go ((3 : Nat) : Int) 0 3 zs = cs at *
  have hchm : Sg.Chain (Sg.begin (Nm.seg 3) 3 100) (cs.take m) := by
    have h2 := HCH.out
    rw [← List.take_append_drop m cs] at h2
    exact (Sg.Chain.append.1 h2).1
  have htlm : (cs.take m).length = m := by rw [List.length_take, HGL.out]; omega
  have HMD := hide (fun (W : World) (hb : Below w.heap.size w W) (A : Option Addr) (cap : Nat) (hbt : Bats W A (cs.take m)) => made_any 3 100 A cap m _ W p (HS.out.below hb) (HT.out.below hb (Nat.le_refl _)) (HPT.out.below hb) htlm (by omega) hbt (fun b hb => HGD.out b (List.mem_of_mem_take hb)) (fun b hb => HSM.out b (List.mem_of_mem_take hb)) h03 (by omega) hchm)
  clear hchm
  go_enter Tryz.func5, Tryz.ntmps5
  go_upto_region 8 with (first
    | (go_at_call 9; refine HFI.out.mono ?_; rintro e w1 ⟨rfl, hb1⟩; have HB1 := hide hb1; clear hb1 HFI)
    | (go_at_call 12; refine (HRW.out w1 HB1.out).mono ?_; rintro e w2 ⟨⟨A2, c2, rfl, hc2, hm2, hbt2⟩, hb2⟩; have HB2 := hide (HB1.out.trans (hb2.mono HB1.out.size)); have HBT := hide hbt2; clear hbt2 hb2 HRW)
    | (go_at_call 11; (with_reducible refine (num_at sy ((nz : Int) + 1) (nz + 1) _ (by omega) (by omega) (by omega) hsb.1 hsb.2).mono ?_); rintro e wv ⟨rfl, rfl⟩; rw [HMM.out])
    | fail)
  have hcut := fun W => run_cut_bat W A2 nz c2 m (by omega)
  go_upto_region 9 with (first
    | (go_at_call 13; refine (HMD.out _ HB2.out A2 c2 (HBT.out.first m)).mono ?_; rintro e w3 ⟨Bd, X, S, T, d, s, x, rfl, hw3, hm3⟩; have HW3 := hide hw3; have HM3 := hide hm3.mz; clear hw3 hm3 HMD)
    | fail)
  clear hcut
  obtain ⟨d1, s1, hsy1, hm1, hfx1, -, hed1⟩ := HM3.out.sync
  have hcs := sgSync_any w2 w3 S T _ Bd X d s p HW3.out (HS.out.below HB2.out) (by omega)
  rw [hsy1] at hcs
  simp only [errR] at hcs
  have HSY := hide hcs
  have hsyn : (d1.files x).synced = ((cs.take m).flatMap Rc.bytes).length := by
    obtain ⟨z, hz⟩ := HM3.out
    rw [hfx1]
    show (d.files x).bytes.length = _
    rw [hz.bytes]
  obtain ⟨hsd, hsc⟩ := hm1.syncedAt m (by omega) (by rw [List.take_take, Nat.min_self]; exact hsyn)
  have hel := hm1.edLast
  rw [htlm] at hel
  rw [hel] at hsd
  obtain ⟨Lo, hLo⟩ : ∃ Lo, Lo = (Sg.last s1.edges).off := ⟨_, rfl⟩
  rw [← hLo] at hsd
  have HEN := hide (fun (S T : Nat → Prop) (W : World) (n : Nat) (h : SgW w2 S T n Bd d1 X s1 W) => sgEnd_any X Bd s1 T W h.seg h.ok)
  rw [← hLo] at HEN
  have HSN := hide (fun (S T : Nat → Prop) (W : World) (h : SgW w2 S T (m + 3 + 1) Bd d1 X s1 W) => sgSynced_any w2 W S T _ Bd X d1 s1 p h (HS.out.below HB2.out) hm1.posMono hsc)
  rw [hsd] at HSN
  have HLO := hide hLo
  have HM1 := hide hm1
  have HSYN := hide hsyn
  have hflm := flat_len_le Rc.bytes 300 (cs.take m) (fun b hb => HSM.out b (List.mem_of_mem_take hb))
  rw [htlm] at hflm
  have HFM := hide hflm
  clear hcs hsy1 hm1 hfx1 hed1 HM3 hsyn hsd hsc hel hLo hflm
  go_upto_region 14 with (first
    | (go_at_call 36; refine HSY.out.mono ?_; rintro e w4 ⟨rfl, S4, T4, hh4, -, -⟩; have H4 := hide hh4; clear hh4 HSY)
    | (go_at_call 23; refine (HEN.out S4 T4 w4 _ H4.out).mono ?_; rintro e w5 ⟨rfl, hb5⟩; have H5 := hide (H4.out.grow hb5); clear hb5 H4)
    | (go_at_call 37; refine (HSN.out S4 T4 w5 H5.out).mono ?_; rintro e w6 ⟨rfl, hb6⟩; have H6 := hide (H5.out.grow hb6); clear hb6 H5)
    | fail)
  go_wp2_with fail
  go_loopw [12] (fun qv wr => ∃ (q : Nat) (S T : Nat → Prop) (d : Dk.St) (s' : Sg.St), m ≤ q ∧ q ≤ nz ∧ qv = .int .i64 q ∧ SgW w2 S T (nz + 10 + q) Bd d X s' wr ∧ (d.files x).synced = ((cs.take m).flatMap Rc.bytes).length ∧ ∃ u, u ≤ 300 * (q : Int) ∧ Mz d s' 1048576 u (Dk.upd (fun _ => none) (Nm.seg 3) (some x)) 3 100 x (cs.take q)) (fun qv _ => nz - (intOf qv).toNat)
  case atStart => exact ⟨m, _, _, _, _, Nat.le_refl _, by omega, rfl, H6.out.mono (by omega), HSYN.out, _, by have := HFM.out; omega, HM1.out⟩
  case round =>
    obtain ⟨q, S, T, d, s', hq0, hq, rfl, hw, hsyd, u, hu, hm⟩ := hrel
    have HW := hide hw
    have HM := hide hm
    have HSD := hide hsyd
    have HUU := hide hu
    clear hw hm hsyd hu H6 HSYN HFM
    have hbw := HW.out.below
    have htl : (cs.take q).length = q := by rw [List.length_take, HGL.out]; omega
    have hfl := flat_len_le Rc.bytes 300 (cs.take q) (fun b hb => HSM.out b (List.mem_of_mem_take hb))
    rw [htl] at hfl
    by_cases hqt : q < nz
    · have hql : q < cs.length := by rw [HGL.out]; exact hqt
      obtain ⟨bj, oj, rfl, hbl, Ax, cx, q0, q1, q2, hib⟩ := HBT.out.at_ q hql
      have k0 := (hbw.cell (p := ⟨bj, oj + q * 3, none⟩) hbl).trans q0
      have k1 := (hbw.cell (p := ⟨bj, oj + q * 3 + 1, none⟩) hbl).trans q1
      have k2 := (hbw.cell (p := ⟨bj, oj + q * 3 + 2, none⟩) hbl).trans q2
      have hgq := HGD.out cs[q] (List.getElem_mem hql)
      have hlq := HSM.out cs[q] (List.getElem_mem hql)
      have hfq := chain_next HCH.out q hql
      rw [← HM.out.edges] at hfq
      obtain ⟨d', he, hm', hsyx, -⟩ := HM.out.addF cs[q] hgq hfq (by have := HUU.out; omega)
      have HAP := hide (sgAppend_any w2 wr S T _ Bd X d s' p cs[q] Ax cx cs[q].recs.length HW.out (HS.out.below HB2.out) (HT.out.below HB2.out (Nat.le_refl _)) (by omega) (by rw [HM.out.len, htl]; omega) (by rw [HM.out.pos]; omega) (fun W hcW => hib.below (HW.out.cellW hcW) (Nat.le_refl _)) rfl (fun _ => by omega))
      rw [he] at HAP
      simp only [errR] at HAP
      rw [← List.take_succ_eq_append_getElem hql] at hm'
      rw [HSD.out] at hsyx
      obtain ⟨hs9, hc9⟩ := hm'.syncedAt m (by rw [List.length_take, HGL.out]; omega) (by rw [List.take_take, Nat.min_eq_left (by omega)]; exact hsyx)
      have he9 : (Sg.ed (s'.add cs[q] (Rc.bytes cs[q]).length).edges m).off = Lo := by
        rw [hm'.edges, Sg.ed_last _ rfl _ m (by rw [List.length_take, HGL.out]; omega), List.take_take, Nat.min_eq_left (by omega), ← HM1.out.edges]
        exact HLO.out.symm
      rw [he9] at hs9
      have HM' := hide hm'
      have HSY' := hide hsyx
      have HUL := hide (show u + ((Rc.bytes cs[q]).length : Nat) ≤ 300 * ((q + 1 : Nat) : Int) from by have := HUU.out; omega)
      have HSN' := hide (fun (S T : Nat → Prop) (W : World) (h : SgW w2 S T (nz + 10 + q + 1) Bd d' X (s'.add cs[q] (Rc.bytes cs[q]).length) W) => sgSynced_any w2 W S T _ Bd X d' _ p h (HS.out.below HB2.out) HM'.out.posMono hc9)
      rw [hs9] at HSN'
      clear q0 q1 q2 hib hgq hlq hfq he hm' htl hfl hsyx hs9 hc9 he9
      generalize s'.add cs[q] (Rc.bytes cs[q]).length = s9 at *
      generalize (Rc.bytes cs[q]).length = Lq at *
      generalize cs[q] = b at *
      unfold batV at HAP
      have dq : decide (q < nz) = true := decide_eq_true hqt
      go_wp2_with (first
        | (go_at_call 34; refine HAP.out.mono ?_; rintro e w13 ⟨rfl, S13, T13, hh13, -⟩; have H13 := hide hh13; clear hh13 HAP)
        | (go_at_call 37; refine (HSN'.out S13 T13 w13 H13.out).mono ?_; rintro e w14 ⟨rfl, hb14⟩; have H14 := hide (H13.out.grow hb14); clear hb14)
        | fail)
      go_roundw
      case rel => exact ⟨q + 1, S13, T13, d', s9, by omega, by omega, by go_num, H14.out, HSY'.out, _, HUL.out, HM'.out⟩
      case measure => simp [intOf]; omega
    · obtain rfl : q = nz := by omega
      have htk : cs.take q = cs := List.take_of_length_le (by rw [HGL.out]; exact Nat.le_refl _)
      rw [htk] at HM hfl
      have HFL := hide hfl
      obtain ⟨Hi, hHi⟩ : ∃ Hi, Hi = (Sg.last s'.edges).off := ⟨_, rfl⟩
      have HHI := hide hHi
      have HEN2 := hide (sgEnd_any X Bd s' T wr HW.out.seg HW.out.ok)
      rw [← hHi] at HEN2
      clear htk htl hfl hHi
      go_upto_region 21 with (first
        | (go_at_call 23; refine HEN2.out.mono ?_; rintro e w9 ⟨rfl, hb9⟩; have H9 := hide (HW.out.grow hb9); clear hb9)
        | (go_at_call 38; refine (H9.out.disk.crash (by omega) Ap cp np ps (HP.out.below (HB2.out.trans (H9.out.below.mono HB2.out.size)) (Nat.le_refl _)) HNP.out (fun x o e hne => ⟨fun h => by have := HP.out.lt x o e hne; have := HB2.out.size; have := (H9.out.disk.lo _ h).1; omega, by have := HP.out.lt x o e hne; have := HB2.out.size; have := H9.out.below.size; omega⟩)).mono ?_; rintro e w10 ⟨rfl, ys, ⟨hy, hys⟩, hh10, -⟩; have H10 := hide hh10; have HY := hide (And.intro hy hys); clear hh10 hy hys H9)
        | fail)
      obtain ⟨L, hL1, hL2, hhas, hfx⟩ := HM.out.has.crash1 ps ys HY.out.1 HY.out.2
      have hbf : (d.files x).bytes = cs.flatMap Rc.bytes := by
        obtain ⟨z, hz⟩ := HM.out
        exact hz.bytes
      rw [hbf] at hL2
      rw [HSD.out] at hL1
      have hbx : ((d.crash ps ys).files x).bytes = (cs.flatMap Rc.bytes).take L := by
        rw [hfx]
        show (d.files x).bytes.take L = _
        rw [hbf]
      have hle := hhas.len (Nm.seg 3) x (Dk.upd_same _ _ _)
      rw [hbx, List.length_take, Nat.min_eq_left hL2] at hle
      have hfi := hhas.find (Nm.seg 3) x (Dk.upd_same _ _ _)
      have HLE := hide (H10.out.len p (SentsG.d (HS.out.below HB2.out)) (Nm.seg 3) (by rw [seg_name h03]; omega))
      rw [hle, hfi, seg3] at HLE
      simp only [errR] at HLE
      have HHH := hide hhas
      have HBX := hide hbx
      have HL1 := hide hL1
      have HL2 := hide hL2
      clear hL1 hL2 hhas hfx hbf hbx hle hfi HY
      go_upto_region 22 with (first
        | (go_at_call 39; refine HLE.out.mono ?_; rintro e w11 ⟨rfl, qd, hqd⟩; have H11 := hide (hqd ▸ H10.out.grow (below_drewN (Below.refl _ _) qd) : SessS _ w2 _ Bd (d.crash ps ys) w11); clear hqd HLE H10)
        | fail)
      obtain ⟨k, d12, s12, u12, hk, hk1, hk2, hm12, -, hsy12, -, hop⟩ := sgOpen_torn w2 w11 _ _ Bd _ 3 100 p H11.out (HS.out.below HB2.out) (by omega) h03 (by omega) (HT.out.below HB2.out (Nat.le_refl _)) (HPT.out.below HB2.out) HHH.out (Dk.upd_same _ _ _) HCH.out HGD.out L HL2.out HBX.out (by have := HFL.out; omega)
      have htlk : (cs.take k).length = k := by rw [List.length_take]; omega
      rw [HGL.out] at hk hk2
      have hmk : m ≤ k := by
        rcases Nat.lt_or_ge k m with h | h
        · exfalso
          have h3 := hk2 (by omega)
          have h4 := Sg.flat_take_le cs (k + 1) m (by omega)
          have := HL1.out
          omega
        · exact h
      obtain ⟨Ek, hEk⟩ : ∃ Ek, Ek = (Sg.last s12.edges).off := ⟨_, rfl⟩
      obtain ⟨P, hP⟩ : ∃ P : Nat, P = ((cs.take k).flatMap Rc.bytes).length := ⟨_, rfl⟩
      have hek : (Sg.ed s'.edges k).off = Ek := by
        rw [HM.out.edges, Sg.ed_last _ rfl _ k (by rw [HGL.out]; omega), ← hm12.edges]; exact hEk.symm
      have hem : (Sg.ed s'.edges m).off = Lo := by
        rw [HM.out.edges, Sg.ed_last _ rfl _ m (by rw [HGL.out]; omega), ← HM1.out.edges]; exact HLO.out.symm
      have hen : (Sg.ed s'.edges q).off = Hi := by
        have := HM.out.edLast
        rw [HGL.out] at this
        rw [this]; exact HHI.out.symm
      have hlo : Lo ≤ Ek := by
        rw [← hem, ← hek]; exact HM.out.offMono m k hmk (by rw [HM.out.len, HGL.out]; omega)
      have hhi : Ek ≤ Hi := by
        rw [← hek, ← hen]; exact HM.out.offMono k q (by omega) (by rw [HM.out.len, HGL.out]; omega)
      obtain ⟨hs12, hc12⟩ := hm12.syncedAt k (by omega) (by rw [List.take_take, Nat.min_self]; exact hsy12)
      have hl12 := hm12.edLast
      rw [htlk] at hl12
      rw [hl12, ← hEk] at hs12
      have hpos := hm12.pos
      rw [← hP] at hpos hop hk1
      have HNXT : Hid (∀ (j : Nat) (hj : j < cs.length), cs[j].base + cs[j].recs.length = (Sg.ed s'.edges (j + 1)).off) := hide fun j hj => by
        rw [HM.out.edges]; exact (Sg.ed_next _ rfl cs j hj).symm
      have HMON : Hid (∀ a b, a < b → b ≤ q → (Sg.ed s'.edges a).off < (Sg.ed s'.edges b).off) := hide fun a b h1 h2 => HM.out.offs a b h1 (by rw [HGL.out]; exact h2)
      have HOP := hide hop
      have HM12 := hide hm12
      have HEK := hide hEk
      have HEKE := hide hek
      have HFK := hide (show ((cs.take k).flatMap Rc.bytes).length ≤ 300 * k from by
        have h := flat_len_le Rc.bytes 300 (cs.take k) (fun b hb => HSM.out b (List.mem_of_mem_take hb))
        rwa [htlk] at h)
      have HEN12 := hide (fun (X2 : Nat) (S T : Nat → Prop) (W : World) (n : Nat) (h : SgW w2 S T n Bd d12 X2 s12 W) => sgEnd_any X2 Bd s12 T W h.seg h.ok)
      rw [← hEk] at HEN12
      have HSZ12 := hide (fun (X2 : Nat) (S T : Nat → Prop) (W : World) (n : Nat) (h : SgW w2 S T n Bd d12 X2 s12 W) => sgSize_any X2 Bd s12 T W h.seg h.ok)
      rw [hpos] at HSZ12
      have HSY12 := hide (fun (X2 : Nat) (S T : Nat → Prop) (W : World) (n : Nat) (h : SgW w2 S T n Bd d12 X2 s12 W) => sgSynced_any w2 W S T n Bd X2 d12 s12 p h (HS.out.below HB2.out) hm12.posMono hc12)
      rw [hs12] at HSY12
      have dlo : decide (Ek < Lo) = false := decide_eq_false (by omega)
      have dhi : decide (Hi < Ek) = false := decide_eq_false (by omega)
      have hwl : IntKind.i64.wrap ((P : Int) + ((L : Int) - (P : Int))) = (L : Int) := by
        have h1 := HL2.out
        have h2 := HFL.out
        rw [IntKind.wrap_i64]; omega
      have M0 : Hid True := hide trivial
      clear hk1 hk2 hm12 hsy12 hop hEk hP hek hem hen hlo hhi hs12 hc12 hl12 hpos htlk HHH HBX HL1 HL2 HHI HLO
      go_upto_region 25 with (first
        | (go_at_call 40; refine HOP.out.mono ?_; rintro e w12 ⟨X2, S12, T12, rfl, hh12, -, -⟩; have H12 := hide hh12; clear hh12 HOP)
        | (have _t := M0; go_at_call 23; refine (HEN12.out X2 S12 T12 w12 _ H12.out).mono ?_; rintro e w13 ⟨rfl, hb13⟩; have H13 := hide (H12.out.grow hb13); clear hb13 M0 H12)
        | (have _t := H13; go_at_call 23; refine (HEN12.out X2 S12 T12 w13 _ H13.out).mono ?_; rintro e w14 ⟨rfl, hb14⟩; have H14 := hide (H13.out.grow hb14); clear hb14 H13)
        | (have _t := H14; go_at_call 24; refine (HSZ12.out X2 S12 T12 w14 _ H14.out).mono ?_; rintro e w15 ⟨rfl, hb15⟩; have H15 := hide (H14.out.grow hb15); clear hb15 H14)
        | (have _t := H15; go_at_call 37; refine (HSY12.out X2 S12 T12 w15 _ H15.out).mono ?_; rintro e w16 ⟨rfl, hb16⟩; have H16 := hide (H15.out.grow hb16); clear hb16 H15)
        | (have _t := H16; go_at_call 23; refine (HEN12.out X2 S12 T12 w16 _ H16.out).mono ?_; rintro e w17 ⟨rfl, hb17⟩; have H17 := hide (H16.out.grow hb17); clear hb17 H16)
        | fail)
      clear HSZ12 HSY12
      go_wp2_with fail
      go_loopw [19] (fun iv wr => ∃ j : Nat, j ≤ k ∧ iv = .int .i64 j ∧ Below w17.heap.size w17 wr) (fun iv _ => k - (intOf iv).toNat)
      case atStart => exact ⟨0, Nat.zero_le _, rfl, Below.refl _ _⟩
      case round =>
        obtain ⟨j, hj, rfl, hbr⟩ := hrel
        have HR := hide (H17.out.grow hbr)
        have HRB := hide hbr
        clear hbr
        have hbw := HR.out.below
        by_cases hjk : j < k
        · have hjc : j < cs.length := by rw [HGL.out]; omega
          obtain ⟨bj, oj, rfl, hbl, Ax, cx, q0, q1, q2, -⟩ := HBT.out.at_ j hjc
          have k0 := (hbw.cell (p := ⟨bj, oj + j * 3, none⟩) hbl).trans q0
          have k1 := (hbw.cell (p := ⟨bj, oj + j * 3 + 1, none⟩) hbl).trans q1
          have k2 := (hbw.cell (p := ⟨bj, oj + j * 3 + 2, none⟩) hbl).trans q2
          have hg := HGD.out _ (List.getElem_mem hjc)
          have HNX := hide (rnext_any cs[j] Ax cx cs[j].recs.length wr rfl hg.base0 (by have := hg.base1; omega) (by have := hg.n1; omega))
          have hnx := HNXT.out j hjc
          rw [hnx] at HNX
          have hle : (Sg.ed s'.edges (j + 1)).off ≤ Ek := by
            rcases Nat.lt_or_ge (j + 1) k with h1 | h1
            · have := HMON.out (j + 1) k h1 (by omega)
              rw [HEKE.out] at this
              omega
            · obtain rfl : j + 1 = k := by omega
              rw [HEKE.out]
              exact Int.le_refl _
          unfold batV at HNX
          clear q0 q1 q2 hg hnx
          generalize (Sg.ed s'.edges (j + 1)).off = nx at *
          generalize cs[j].base = b0 at *
          generalize cs[j].epoch = b1 at *
          generalize cs[j].recs.length = b2 at *
          have dle : decide (nx ≤ Ek) = true := decide_eq_true hle
          have djn : decide (j < q) = true := decide_eq_true (by omega)
          have hjq : j < q := by omega
          go_wp2_with (first
            | (go_at_call 18; refine HNX.out.mono ?_; rintro e w18 ⟨rfl, hb18⟩; have HB18 := hide hb18; clear hb18 HNX)
            | (have _t := HB18; go_at_call 23; refine (HEN12.out X2 S12 T12 w18 _ (HR.out.grow HB18.out)).mono ?_; rintro e w19 ⟨rfl, hb19⟩; have HB19 := hide (HB18.out.trans (hb19.mono HB18.out.size)); clear hb19 HB18)
            | fail)
          go_roundw
          case rel => exact ⟨j + 1, by omega, by go_num, HRB.out.trans (HB19.out.mono HRB.out.size)⟩
          case measure => simp [intOf]; omega
        · obtain rfl : j = k := by omega
          by_cases hjq : j < q
          · have hjc : j < cs.length := by rw [HGL.out]; omega
            obtain ⟨bj, oj, hA2, hbl, Ax, cx, q0, q1, q2, -⟩ := HBT.out.at_ j hjc
            subst hA2
            have k0 := (hbw.cell (p := ⟨bj, oj + j * 3, none⟩) hbl).trans q0
            have k1 := (hbw.cell (p := ⟨bj, oj + j * 3 + 1, none⟩) hbl).trans q1
            have k2 := (hbw.cell (p := ⟨bj, oj + j * 3 + 2, none⟩) hbl).trans q2
            have hg := HGD.out _ (List.getElem_mem hjc)
            have HNX := hide (rnext_any cs[j] Ax cx cs[j].recs.length wr rfl hg.base0 (by have := hg.base1; omega) (by have := hg.n1; omega))
            have hnx := HNXT.out j hjc
            rw [hnx] at HNX
            have hle : Ek < (Sg.ed s'.edges (j + 1)).off := by
              have := HMON.out j (j + 1) (by omega) (by omega)
              rw [HEKE.out] at this
              exact this
            unfold batV at HNX
            clear q0 q1 q2 hg hnx
            generalize (Sg.ed s'.edges (j + 1)).off = nx at *
            generalize cs[j].base = b0 at *
            generalize cs[j].epoch = b1 at *
            generalize cs[j].recs.length = b2 at *
            have dle : decide (nx ≤ Ek) = false := decide_eq_false (by omega)
            have djn : decide (j < q) = true := decide_eq_true hjq
            go_upto_region 28 with (first
              | (go_at_call 18; refine HNX.out.mono ?_; rintro e w18 ⟨rfl, hb18⟩; have HB18 := hide hb18; clear hb18 HNX)
              | (have _t := HB18; go_at_call 23; refine (HEN12.out X2 S12 T12 w18 _ (HR.out.grow HB18.out)).mono ?_; rintro e wz ⟨rfl, hb19⟩; have HZ := hide (HR.out.grow (HB18.out.trans (hb19.mono HB18.out.size))); clear hb19 HB18)
              | fail)
            clear k0 k1 k2 hbl dle djn hle hbw HR HRB
            by_cases hk0 : j = 0
            · subst hk0
              have d0 : decide ((0 : Int) < ((0 : Nat) : Int)) = false := by decide
              go_upto_region 34 with fail
              obtain ⟨d13, s13, hm13, -, -, -, hop⟩ := sgOpen_mz w2 wz _ _ Bd d12 3 100 p HZ.out.disk (HS.out.below HB2.out) (by omega) h03 (by omega) (HT.out.below HB2.out (Nat.le_refl _)) (HPT.out.below HB2.out) HM12.out (by have := HFK.out; omega)
              have HOP2 := hide hop
              have he13 : (Sg.last s13.edges).off = Ek := by rw [hm13.edges, ← HM12.out.edges]; exact HEK.out.symm
              have HEN13 := hide (fun (X : Nat) (S T : Nat → Prop) (W : World) (n : Nat) (h : SgW w2 S T n Bd d13 X s13 W) => sgEnd_any X Bd s13 T W h.seg h.ok)
              rw [he13] at HEN13
              have HENB := hide (fun (S T : Nat → Prop) (W : World) (n : Nat) (h : SgW w2 S T n Bd d13 X2 s12 W) => sgEnd_any X2 Bd s12 T W h.seg h.ok)
              rw [← HEK.out] at HENB
              have hcutk := fun W => run_cut_bat W (some ⟨bj, oj, none⟩) q c2 0 (by omega)
              clear hop hm13 he13
              go_wp2_with (first
                | (go_at_call 40; refine HOP2.out.mono ?_; rintro e w20 ⟨X3, S20, T20, rfl, hh20, hc20, hu20⟩; have H20 := hide hh20; have HCG := hide hc20; have HX20 := hide (HZ.out.beside hh20 hc20 hu20); have HC20 := hide (hh20.below); clear hh20 hc20 hu20 HOP2)
                | (go_at_call 30; refine (sameBatches_eq none (some ⟨bj, oj, none⟩) 0 c2 0 (cs.take 0) w20 (by rw [List.length_take, HGL.out]; omega) (by omega) (.inl rfl) ((HBT.out.first 0).below HC20.out (Nat.le_refl _)) (fun b hb => HLR.out b (List.mem_of_mem_take hb))).mono ?_; rintro e w21 ⟨rfl, hb21⟩; have HB21 := hide hb21; clear hb21)
                | (have _t := HB21; go_at_call 23; refine (HEN13.out X3 S20 T20 w21 _ (H20.out.grow HB21.out)).mono ?_; rintro e w22 ⟨rfl, hb22⟩; have HB22 := hide (HB21.out.trans (hb22.mono HB21.out.size)); clear hb22 HB21)
                | (have _t := HB22; go_at_call 23; refine (HENB.out S20 T12 w22 _ (HX20.out.grow HB22.out)).mono ?_; rintro e w23 ⟨rfl, hb23⟩; have HB23 := hide (HB22.out.trans (hb23.mono HB22.out.size)); clear hb23)
                | fail)
              go_ret
              exact ⟨by simp, HB2.out.trans ((HC20.out.trans (HB23.out.mono HC20.out.size)).mono HB2.out.size)⟩
            · have hkl : 0 < (cs.take j).length := by rw [List.length_take, HGL.out]; omega
              have hfl := HFK.out
              obtain ⟨fx, hx1, hx2, hx3, hrx⟩ := sgRead_mz w2 wz S12 T12 _ Bd X2 d12 s12 p HZ.out (HS.out.below HB2.out) (HT.out.below HB2.out (Nat.le_refl _)) (by omega) HM12.out (by omega) 1048576 0 hkl
              have hbe : (cs.take j)[0].base = 3 := by
                have hfo := chain_next HM12.out.chain 0 hkl
                unfold Sg.follows at hfo
                rw [Bool.and_eq_true] at hfo
                exact of_decide_eq_true hfo.1
              have hfx : fx = (cs.take j).length := hx3 (by omega)
              rw [hbe, hfx, Nat.sub_zero, List.drop_zero, List.take_length] at hrx
              have HS12 : Hid (∀ k, S12 k → k < wz.heap.size) := hide (fun k hk => (HZ.out.disk.lo k hk).2)
              have HRX := hide hrx
              clear hx1 hx2 hx3 hrx hbe hfx hfl
              have d0 : decide ((0 : Int) < (j : Int)) = true := decide_eq_true (by omega)
              have d0n : decide (0 < j) = true := decide_eq_true (by omega)
              go_upto_region 34 with (first
                | (go_at_call 28; refine HRX.out.mono ?_; rintro e w19 ⟨v10, qs10, rfl, hr10, hq10, hb10⟩; have HR10 := hide hr10; have HQ10 := hide hq10; have HZ2 := hide (HZ.out.grow hb10); clear hr10 hq10 hb10 HRX HZ)
                | fail)
              have HZ := HZ2
              clear HZ2
              obtain ⟨Aa, ca, rfl, hca, hma, hba⟩ := HR10.out.val
              have hla : qs10.length = j := by have := congrArg List.length HQ10.out; rw [List.length_map, List.length_take, HGL.out] at this; omega
              rw [hla] at hca ⊢
              clear hba hla
              obtain ⟨d13, s13, hm13, -, -, -, hop⟩ := sgOpen_mz w2 w19 _ _ Bd d12 3 100 p HZ.out.disk (HS.out.below HB2.out) (by omega) h03 (by omega) (HT.out.below HB2.out (Nat.le_refl _)) (HPT.out.below HB2.out) HM12.out (by have := HFK.out; omega)
              have HOP2 := hide hop
              have he13 : (Sg.last s13.edges).off = Ek := by rw [hm13.edges, ← HM12.out.edges]; exact HEK.out.symm
              have HEN13 := hide (fun (X : Nat) (S T : Nat → Prop) (W : World) (n : Nat) (h : SgW w2 S T n Bd d13 X s13 W) => sgEnd_any X Bd s13 T W h.seg h.ok)
              rw [he13] at HEN13
              have HENB := hide (fun (S T : Nat → Prop) (W : World) (n : Nat) (h : SgW w2 S T n Bd d13 X2 s12 W) => sgEnd_any X2 Bd s12 T W h.seg h.ok)
              rw [← HEK.out] at HENB
              have hcutk := fun W => run_cut_bat W (some ⟨bj, oj, none⟩) q c2 j (by omega)
              clear hop hm13 he13
              go_wp2_with (first
                | (go_at_call 40; refine HOP2.out.mono ?_; rintro e w20 ⟨X3, S20, T20, rfl, hh20, hc20, hu20⟩; have H20 := hide hh20; have HCG := hide hc20; have HX20 := hide (HZ.out.beside hh20 hc20 hu20); have HC20 := hide (hh20.below); clear hh20 hc20 hu20 HOP2)
                | (go_at_call 30; refine (sameBatches_eq Aa (some ⟨bj, oj, none⟩) ca c2 j (cs.take j) w20 (by rw [List.length_take, HGL.out]; omega) (by omega) (HQ10.out ▸ (HR10.out.chg HCG.out HS12.out).bats) ((HBT.out.first j).below HC20.out (Nat.le_refl _)) (fun b hb => HLR.out b (List.mem_of_mem_take hb))).mono ?_; rintro e w21 ⟨rfl, hb21⟩; have HB21 := hide hb21; clear hb21)
                | (have _t := HB21; go_at_call 23; refine (HEN13.out X3 S20 T20 w21 _ (H20.out.grow HB21.out)).mono ?_; rintro e w22 ⟨rfl, hb22⟩; have HB22 := hide (HB21.out.trans (hb22.mono HB21.out.size)); clear hb22 HB21)
                | (have _t := HB22; go_at_call 23; refine (HENB.out S20 T12 w22 _ (HX20.out.grow HB22.out)).mono ?_; rintro e w23 ⟨rfl, hb23⟩; have HB23 := hide (HB22.out.trans (hb23.mono HB22.out.size)); clear hb23)
                | fail)
              go_ret
              exact ⟨by simp, HB2.out.trans ((HC20.out.trans (HB23.out.mono HC20.out.size)).mono HB2.out.size)⟩
          · have djn : decide (j < q) = false := decide_eq_false hjq
            go_upto_region 28 with fail
            have HZ := HR
            clear HR HRB hbw djn
            by_cases hk0 : j = 0
            · subst hk0
              have d0 : decide ((0 : Int) < ((0 : Nat) : Int)) = false := by decide
              go_upto_region 34 with fail
              obtain ⟨d13, s13, hm13, -, -, -, hop⟩ := sgOpen_mz w2 wr _ _ Bd d12 3 100 p HZ.out.disk (HS.out.below HB2.out) (by omega) h03 (by omega) (HT.out.below HB2.out (Nat.le_refl _)) (HPT.out.below HB2.out) HM12.out (by have := HFK.out; omega)
              have HOP2 := hide hop
              have he13 : (Sg.last s13.edges).off = Ek := by rw [hm13.edges, ← HM12.out.edges]; exact HEK.out.symm
              have HEN13 := hide (fun (X : Nat) (S T : Nat → Prop) (W : World) (n : Nat) (h : SgW w2 S T n Bd d13 X s13 W) => sgEnd_any X Bd s13 T W h.seg h.ok)
              rw [he13] at HEN13
              have HENB := hide (fun (S T : Nat → Prop) (W : World) (n : Nat) (h : SgW w2 S T n Bd d13 X2 s12 W) => sgEnd_any X2 Bd s12 T W h.seg h.ok)
              rw [← HEK.out] at HENB
              have hcutk := fun W => run_cut_bat W A2 q c2 0 (by omega)
              clear hop hm13 he13
              go_wp2_with (first
                | (go_at_call 40; refine HOP2.out.mono ?_; rintro e w20 ⟨X3, S20, T20, rfl, hh20, hc20, hu20⟩; have H20 := hide hh20; have HCG := hide hc20; have HX20 := hide (HZ.out.beside hh20 hc20 hu20); have HC20 := hide (hh20.below); clear hh20 hc20 hu20 HOP2)
                | (go_at_call 30; refine (sameBatches_eq none A2 0 c2 0 (cs.take 0) w20 (by rw [List.length_take, HGL.out]; omega) (by omega) (.inl rfl) ((HBT.out.first 0).below HC20.out (Nat.le_refl _)) (fun b hb => HLR.out b (List.mem_of_mem_take hb))).mono ?_; rintro e w21 ⟨rfl, hb21⟩; have HB21 := hide hb21; clear hb21)
                | (have _t := HB21; go_at_call 23; refine (HEN13.out X3 S20 T20 w21 _ (H20.out.grow HB21.out)).mono ?_; rintro e w22 ⟨rfl, hb22⟩; have HB22 := hide (HB21.out.trans (hb22.mono HB21.out.size)); clear hb22 HB21)
                | (have _t := HB22; go_at_call 23; refine (HENB.out S20 T12 w22 _ (HX20.out.grow HB22.out)).mono ?_; rintro e w23 ⟨rfl, hb23⟩; have HB23 := hide (HB22.out.trans (hb23.mono HB22.out.size)); clear hb23)
                | fail)
              go_ret
              exact ⟨by simp, HB2.out.trans ((HC20.out.trans (HB23.out.mono HC20.out.size)).mono HB2.out.size)⟩
            · have hkl : 0 < (cs.take j).length := by rw [List.length_take, HGL.out]; omega
              have hfl := HFK.out
              obtain ⟨fx, hx1, hx2, hx3, hrx⟩ := sgRead_mz w2 wr S12 T12 _ Bd X2 d12 s12 p HZ.out (HS.out.below HB2.out) (HT.out.below HB2.out (Nat.le_refl _)) (by omega) HM12.out (by omega) 1048576 0 hkl
              have hbe : (cs.take j)[0].base = 3 := by
                have hfo := chain_next HM12.out.chain 0 hkl
                unfold Sg.follows at hfo
                rw [Bool.and_eq_true] at hfo
                exact of_decide_eq_true hfo.1
              have hfx : fx = (cs.take j).length := hx3 (by omega)
              rw [hbe, hfx, Nat.sub_zero, List.drop_zero, List.take_length] at hrx
              have HS12 : Hid (∀ k, S12 k → k < wr.heap.size) := hide (fun k hk => (HZ.out.disk.lo k hk).2)
              have HRX := hide hrx
              clear hx1 hx2 hx3 hrx hbe hfx hfl
              have d0 : decide ((0 : Int) < (j : Int)) = true := decide_eq_true (by omega)
              have d0n : decide (0 < j) = true := decide_eq_true (by omega)
              go_upto_region 34 with (first
                | (go_at_call 28; refine HRX.out.mono ?_; rintro e w19 ⟨v10, qs10, rfl, hr10, hq10, hb10⟩; have HR10 := hide hr10; have HQ10 := hide hq10; have HZ2 := hide (HZ.out.grow hb10); clear hr10 hq10 hb10 HRX HZ)
                | fail)
              have HZ := HZ2
              clear HZ2
              obtain ⟨Aa, ca, rfl, hca, hma, hba⟩ := HR10.out.val
              have hla : qs10.length = j := by have := congrArg List.length HQ10.out; rw [List.length_map, List.length_take, HGL.out] at this; omega
              rw [hla] at hca ⊢
              clear hba hla
              obtain ⟨d13, s13, hm13, -, -, -, hop⟩ := sgOpen_mz w2 w19 _ _ Bd d12 3 100 p HZ.out.disk (HS.out.below HB2.out) (by omega) h03 (by omega) (HT.out.below HB2.out (Nat.le_refl _)) (HPT.out.below HB2.out) HM12.out (by have := HFK.out; omega)
              have HOP2 := hide hop
              have he13 : (Sg.last s13.edges).off = Ek := by rw [hm13.edges, ← HM12.out.edges]; exact HEK.out.symm
              have HEN13 := hide (fun (X : Nat) (S T : Nat → Prop) (W : World) (n : Nat) (h : SgW w2 S T n Bd d13 X s13 W) => sgEnd_any X Bd s13 T W h.seg h.ok)
              rw [he13] at HEN13
              have HENB := hide (fun (S T : Nat → Prop) (W : World) (n : Nat) (h : SgW w2 S T n Bd d13 X2 s12 W) => sgEnd_any X2 Bd s12 T W h.seg h.ok)
              rw [← HEK.out] at HENB
              have hcutk := fun W => run_cut_bat W A2 q c2 j (by omega)
              clear hop hm13 he13
              go_wp2_with (first
                | (go_at_call 40; refine HOP2.out.mono ?_; rintro e w20 ⟨X3, S20, T20, rfl, hh20, hc20, hu20⟩; have H20 := hide hh20; have HCG := hide hc20; have HX20 := hide (HZ.out.beside hh20 hc20 hu20); have HC20 := hide (hh20.below); clear hh20 hc20 hu20 HOP2)
                | (go_at_call 30; refine (sameBatches_eq Aa A2 ca c2 j (cs.take j) w20 (by rw [List.length_take, HGL.out]; omega) (by omega) (HQ10.out ▸ (HR10.out.chg HCG.out HS12.out).bats) ((HBT.out.first j).below HC20.out (Nat.le_refl _)) (fun b hb => HLR.out b (List.mem_of_mem_take hb))).mono ?_; rintro e w21 ⟨rfl, hb21⟩; have HB21 := hide hb21; clear hb21)
                | (have _t := HB21; go_at_call 23; refine (HEN13.out X3 S20 T20 w21 _ (H20.out.grow HB21.out)).mono ?_; rintro e w22 ⟨rfl, hb22⟩; have HB22 := hide (HB21.out.trans (hb22.mono HB21.out.size)); clear hb22 HB21)
                | (have _t := HB22; go_at_call 23; refine (HENB.out S20 T12 w22 _ (HX20.out.grow HB22.out)).mono ?_; rintro e w23 ⟨rfl, hb23⟩; have HB23 := hide (HB22.out.trans (hb23.mono HB22.out.size)); clear hb23)
                | fail)
              go_ret
              exact ⟨by simp, HB2.out.trans ((HC20.out.trans (HB23.out.mono HC20.out.size)).mono HB2.out.size)⟩
end Go.Proofs.YtfdppggdgdnnaaaGreatDoor
