/-
  HotMarks, walked: each segment's bytes, greatest time, marks; the epochs of all.
-/
import Derived.Test.YtcmgppacipdnaaaGreatDoorQHtI
import Derived.Test.YtcmgppacipdnaaaGreatDoorQHtU
import Derived.Test.YtcmgppacipdnaaaGreatDoorQNsC
import Derived.BigQuiet
namespace Go.Proofs.YtcmgppacipdnaaaGreatDoor
open Go.RowKit Go.Maps

theorem own_readsM {w : World} {lo : Nat} {A : Option Addr} {n c : Nat} {l : List UInt8} (h : Own w lo (.slice A n c) l) : Reads w A l := by
  obtain ⟨A', c', e, ha⟩ := h.arg
  injection e with e1 e2 e3
  subst e1
  exact ha.reads
set_option maxRecDepth 100000 in
set_option maxHeartbeats 16000000 in
theorem hotMarks_walk (w : World) (p : Nat → Addr) (hs : SentsG w p) (hs2 : Sents w p) (ht : Tabs w) (hpt : PowTab w) (h4 : 4 ≤ w.heap.size) (A : Option Addr) (cap n : Nat) (zs : List Int) (hn : zs.length = n) (hA : Ints w A zs) (hz : ∀ k, k < zs.length → -9223372036854775808 ≤ zs.getD k 0 ∧ zs.getD k 0 ≤ 9223372036854775807) (na nb : Int) (ha1 : -9223372036854775808 ≤ na) (ha2 : na ≤ 9223372036854775807) (hb1 : -9223372036854775808 ≤ nb) (hb2 : nb ≤ 9223372036854775807) :
    Calls Tryz.prog 9 #[.slice A n cap, .int .i64 na, .int .i64 nb] w fun e w' => e = .returned (.bool true) ∧ Below w.heap.size w w' := by
  have HF := hide (htFirst_any w p hs ht hpt)
  have HS := hide hs
  have HS2 := hide hs2
  have HT := hide ht
  have HPT := hide hpt
  by_cases hle : n ≤ 20
  · have hxa := num_lt na 300 (by omega)
    obtain ⟨xa, hxa2⟩ : ∃ x, num na 300 = x := ⟨_, rfl⟩
    rw [hxa2] at hxa
    have HNA := hide (fun (W : World) => num_at na 300 300 W (by omega) (by omega) (by omega) ha1 ha2)
    rw [hxa2] at HNA
    have HLG := hide (fun (W : World) => long_any nb 9 W (by omega) (by omega) hb1 hb2)
    have m1 := Int.emod_nonneg nb (show (9 : Int) ≠ 0 by omega)
    have m2 := Int.emod_lt_of_pos nb (show (0 : Int) < 9 by omega)
    obtain ⟨ak, hak⟩ : ∃ B : Int, nb % 9 = B := ⟨_, rfl⟩
    rw [hak] at HLG m1 m2
    have hwa : IntKind.i64.wrap ((xa : Int) + 1) = (xa : Int) + 1 := IntWalk.i64_in _ (by omega)
    have hwk : IntKind.i64.wrap (-1 - ak) = -1 - ak := IntWalk.i64_in _ (by omega)
    have HRW := hide (fun (W : World) (hW : Below w.heap.size w W) => rowE_any 0 A cap n 3 zs W hn hle (by omega) (by omega) (hA.below hW (Nat.le_refl _)) hz)
    have hok := Rw.goB_ok zs ((0 : Nat) : Int) 0 3 (by omega) (by omega) (by omega)
    have hgd : ∀ b ∈ Rw.go ((0 : Nat) : Int) 0 3 zs, Rc.Good b := fun b hb => (hok b hb).1
    have hsm := Rw.go_small zs ((0 : Nat) : Int) 0 3 hgd
    have hch := Rw.go_chain zs ((0 : Nat) : Int) 0 3 (Sg.begin (Nm.seg 0) 0 60) rfl (by decide)
    have hln : (Rw.go ((0 : Nat) : Int) 0 3 zs).length = n := by rw [Rw.go_len, hn]
    have HTT := hide (Rw.go_time zs ((0 : Nat) : Int) 0 3)
    have HGD := hide hgd
    have HSM := hide hsm
    have HCH := hide hch
    have HLN := hide hln
    have HR5 : Hid (∀ b ∈ Rw.go ((0 : Nat) : Int) 0 3 zs, b.recs.length ≤ 5) := hide fun b hb => (hok b hb).2.1
    have HM := hide (And.intro m1 m2)
    have H4S := hide h4
    clear hok hgd hsm hch hln hs hs2 ht hpt hA hz hn ha1 ha2 hb1 hb2 hxa2 hak m1 m2 h4
    generalize Rw.go ((0 : Nat) : Int) 0 3 zs = cs at *
    have HMD := hide (fun (W : World) (hb : Below w.heap.size w W) (A : Option Addr) (cap : Nat) (hbt : Bats W A cs) => htMade_any ((xa : Int) + 1) 0 A cap n cs W p (HS.out.below hb) (HT.out.below hb (Nat.le_refl _)) (HPT.out.below hb) HLN.out (by omega) hbt HGD.out HSM.out (by omega) (by omega) (Sg.begin (Nm.seg 0) 0 60) rfl HCH.out)
    have hnc : (n : Int) ≤ 20 := by omega
    obtain ⟨sz, hsz⟩ : ∃ z : Int, z = (xa : Int) + 1 := ⟨_, rfl⟩
    rw [← hsz] at HMD
    replace hwa : IntKind.i64.wrap ((xa : Int) + 1) = sz := by rw [hwa, hsz]
    clear hsz
    have HSG := hide (fun (w0 W : World) (U : Nat → Prop) (Bd H : Nat) (h : HtA w0 U (3 + 5 * n) Bd H sz 60 1048576 (Ht.grp sz 0 cs) W) => htSegs_A h (by have := Ht.grp_len sz 0 cs; have := HLN.out; omega))
    have HPR := hide (fun (w0 W : World) (U : Nat → Prop) (Bd H : Nat) (h : HtA w0 U (3 + 5 * n) Bd H sz 60 1048576 (Ht.grp sz 0 cs) W) => htPairs_grp h (by have := HLN.out; omega))
    have hgl := Ht.grp_len sz 0 cs
    have HCO := hide (Ht.grp_cont sz 0 cs (Sg.begin (Nm.seg 0) 0 60) rfl HCH.out)
    have HTI := hide (Ht.grp_tight sz 0 cs (Sg.begin (Nm.seg 0) 0 60) rfl HCH.out)
    have HAL := hide (Ht.grp_all sz 0 cs).1
    have HNI : Hid (cs = [] → Ht.grp sz 0 cs = [(0, [])]) := hide fun e => by rw [e]; rfl
    obtain ⟨gs, hgs⟩ : ∃ gs, gs = Ht.grp sz 0 cs := ⟨_, rfl⟩
    rw [← hgs] at HMD HSG HPR HCO HTI HAL HNI hgl
    have HGE := hide hgs
    obtain ⟨G, hG⟩ : ∃ G, G = gs.length := ⟨_, rfl⟩
    have HGG := hide hG.symm
    have hGL : G ≤ 21 := by have := HLN.out; omega
    clear hgs hG hgl
    go_enter Tryz.func9, Tryz.ntmps9
    go_wp2_with (first
      | (go_at_call 12; refine HF.out.mono ?_; rintro e w1 ⟨rfl, hb⟩; have HB1 := hide hb; clear hb)
      | (go_at_call 13; refine (HNA.out w1).mono ?_; rintro e w' ⟨rfl, rfl⟩)
      | (go_at_call 15; refine (HRW.out w1 HB1.out).mono ?_; rintro e w2 ⟨⟨A2, c2, rfl, hc2, hm2, hbt2, -⟩, hb2⟩; have HB2 := hide (HB1.out.trans (hb2.mono HB1.out.size)); have HBT := hide hbt2; clear hbt2 hb2)
      | (go_at_call 16; refine (HMD.out w2 HB2.out A2 c2 HBT.out).mono ?_; rintro e w4 ⟨Bd1, H1, U1, rfl, h3⟩; have H4 := hide h3; have HB24 := hide h3.below; clear h3)
      | (go_at_call 19; refine (HSG.out _ w4 _ _ _ H4.out).mono ?_; rintro e w5 ⟨v7, rfl, ho7, hb⟩; obtain ⟨A5, c5, rfl, ht5⟩ := ho7.reads; rw [HGG.out]; have HT5 := hide ht5; have HB45 := hide hb; clear ho7 ht5 hb)
      | fail)
    have HBT5 := hide ((HBT.out.below HB24.out (Nat.le_refl _)).below HB45.out (Nat.le_refl _))
    have HB4 := hide (HB2.out.trans (HB24.out.mono HB2.out.size))
    have HB5 := hide (HB4.out.trans (HB45.out.mono HB4.out.size))
    have H5 := hide (H4.out.grow HB45.out)
    have HIN := hide H5.out.inner
    clear HF HRW HNA HMD HBT HSG H4
    have HFIL : Hid (∀ i (hi : i < gs.length), cs.filter (Ht.inSeg gs[i]) = gs[i].2) := hide fun i hi => by
      have := Ht.filter_at gs HCO.out (fun g hg => (HIN.out g hg).1) i hi
      rw [HAL.out] at this
      exact this
    have HINJ : Hid (∀ i (hi : i < gs.length) j (hj : j < gs.length), gs[j].1 = gs[i].1 → j = i) := hide fun i hi j hj e => by
      rcases Classical.em (cs = []) with h0 | h0
      · have := congrArg List.length (HNI.out h0)
        simp at this
        omega
      · have h1 := HTI.out.resolve_left h0
        have h2 : ∀ a (ha : a < gs.length), gs[a].1 < Ht.lastOff gs[a].1 gs[a].2 := fun a ha => (HIN.out _ (List.getElem_mem ha)).2 (Ht.tight_at gs 0 h1 a ha).2
        have hp := List.pairwise_iff_getElem.1 HCO.out.two
        rcases Nat.lt_trichotomy j i with h | h | h
        · have := hp j i hj hi h; have := h2 j hj; omega
        · exact h
        · have := hp i j hi hj h; have := h2 i hi; omega
    go_loopw [12] (fun iv wr => ∃ i : Nat, i ≤ G ∧ iv = .int .i64 i ∧ Below w5.heap.size w5 wr) (fun iv _ => G - (intOf iv).toNat)
    case atStart => exact ⟨0, Nat.zero_le _, rfl, Below.refl _ _⟩
    case round =>
      obtain ⟨i, hi, rfl, hb⟩ := hrel
      obtain ⟨wo, rfl⟩ : ∃ W, W = wr := ⟨wr, rfl⟩
      have HBR := hide hb
      clear hb
      by_cases hlt : i < G
      · have hig : i < gs.length := by rw [HGG.out]; exact hlt
        have hgd : gs.getD i (0, []) = gs[i] := by simp [List.getD, hig]
        obtain ⟨f5, hA5, hf5, x0, x1, -⟩ := HT5.out.at_ i hig
        rw [hgd] at x0 x1
        subst hA5
        have hc5 : i < c5 := by have := HT5.out.le; rw [HGG.out] at this; omega
        have hm5 := HT5.out.mx
        have hgsl : gs.length ≤ 10000 := by have := HGG.out; omega
        have h5r := H5.out.grow HBR.out
        have HRW := hide (fun (W : World) (hW : Below wo.heap.size wo W) => htRaw_hit (h5r.grow hW) p (HS.out.below HB2.out) (by omega) (by omega) i hig (HINJ.out i hig))
        have HTM := hide (fun (W : World) (hW : Below wo.heap.size wo W) => htTime_hit (h5r.grow hW) p (HS.out.below HB2.out) (by omega) i hig (HINJ.out i hig))
        have hall : ∀ g ∈ gs, ∀ b ∈ g.2, b ∈ cs := fun g hg b hb => by rw [← HAL.out]; exact List.mem_flatMap.2 ⟨g, hg, hb⟩
        have hglen : ∀ g ∈ gs, g.2.length ≤ cs.length ∧ (g.2.flatMap Rc.bytes).length ≤ 300 * cs.length := fun g hg => by
          obtain ⟨j, hj, rfl⟩ := List.getElem_of_mem hg
          rw [← HFIL.out j hj]
          have h1 := List.length_filter_le (Ht.inSeg gs[j]) cs
          have h2 := flat_len_le Rc.bytes 300 (cs.filter (Ht.inSeg gs[j])) (fun b hb => HSM.out b (List.mem_filter.1 hb).1)
          have h3 : 300 * (cs.filter (Ht.inSeg gs[j])).length ≤ 300 * cs.length := Nat.mul_le_mul_left _ h1
          exact ⟨h1, by omega⟩
        have HMK := hide (fun (W : World) (hW : Below wo.heap.size wo W) => htMarks_hit (h5r.grow hW) p (HS.out.below HB2.out) (HT.out.below HB2.out (Nat.le_refl _)) (Nat.le_trans H4S.out HB2.out.size) (fun g hg b hb => HTT.out b (hall g hg b hb)) (fun g hg => by have := hglen g hg; have := HLN.out; omega) (by omega) (by omega) i hig (HINJ.out i hig))
        have htl := Ht.time_last gs[i].1 60 gs[i].2 (fun b hb => HTT.out b (hall _ (List.getElem_mem hig) b hb))
        rw [htl] at HTM
        have HFI := hide (HFIL.out i hig)
        have HPE : Hid (∀ b, Ht.inSeg gs[i] b = (decide (gs[i].1 ≤ b.base) && decide (b.base < Ht.lastOff gs[i].1 gs[i].2))) := hide fun b => rfl
        have HLB : Hid (∀ k, (((cs.take k).filter (Ht.inSeg gs[i])).flatMap Rc.bytes).length ≤ 6000) := hide fun k => by
          have h1 := List.length_filter_le (Ht.inSeg gs[i]) (cs.take k)
          have h2 := flat_len_le Rc.bytes 300 ((cs.take k).filter (Ht.inSeg gs[i])) (fun b hb => HSM.out b (List.mem_of_mem_take (List.mem_filter.1 hb).1))
          have h3 : 300 * ((cs.take k).filter (Ht.inSeg gs[i])).length ≤ 300 * 20 := Nat.mul_le_mul_left _ (by rw [List.length_take] at h1; have := HLN.out; omega)
          omega
        generalize Ht.inSeg gs[i] = P at *
        generalize Ht.lastOff gs[i].1 gs[i].2 = t2 at *
        generalize gs[i].1 = t1 at *
        generalize gs[i].2 = gb at *
        replace x0 := (HBR.out.cell (p := ⟨f5, i * 3, none⟩) hf5).trans x0
        replace x1 := (HBR.out.cell (p := ⟨f5, i * 3 + 1, none⟩) hf5).trans x1
        have hf5r := Nat.lt_of_lt_of_le hf5 HBR.out.size
        clear hgsl hgd h5r hall hglen htl hf5 hig
        go_wp2_with fail
        go_loopw [13, 14, 15] (fun rv tv kv wr => ∃ k : Nat, k ≤ n ∧ kv = .int .i64 k ∧ Own wr wo.heap.size rv (((cs.take k).filter P).flatMap Rc.bytes) ∧ tv = .int .i64 (Ht.timeOf ((cs.take k).filter P)) ∧ Below wo.heap.size wo wr) (fun _ _ kv _ => n - (intOf kv).toNat)
        case atStart => exact ⟨0, Nat.zero_le _, rfl, Own.nil _ _, rfl, Below.refl _ _⟩
        case round =>
          obtain ⟨k, hk, rfl, how, rfl, hb⟩ := hrel
          have HBQ := hide hb
          have HOW := hide how
          obtain ⟨Ar, cr, rfl, har⟩ := how.arg
          have HAR := hide har
          clear how hb har
          by_cases hlk : k < n
          · have hkl : k < cs.length := by rw [HLN.out]; exact hlk
            obtain ⟨b0, o0, hA2, hb0, Ax, cx, q0, q1, q2, hib⟩ := HBT5.out.at_ k hkl
            subst hA2
            have hgd := HGD.out cs[k] (List.getElem_mem hkl)
            have hp := HPE.out cs[k]
            have htk : (cs.take (k + 1)).filter P = (cs.take k).filter P ++ (if P cs[k] = true then [cs[k]] else []) := by
              rw [List.take_succ_eq_append_getElem hkl, List.filter_append, List.filter_cons]
              rfl
            have HBA := hide (fun (W : World) (hW : Below wo.heap.size wo W) => rbatch_any cs[k] Ax cx cs[k].recs.length W (hib.below (HBR.out.trans (hW.mono HBR.out.size)) (Nat.le_refl _)) hgd rfl)
            have HTB := hide (fun (W : World) (hW : Below wo.heap.size wo W) => rtime_any cs[k].base cs[k].epoch cs[k].recs Ax cx cs[k].recs.length W rfl (by have := hgd.n1; omega) (hib.below (HBR.out.trans (hW.mono HBR.out.size)) (Nat.le_refl _)).recs)
            replace q0 := (HBR.out.cell (p := ⟨b0, o0 + k * 3, none⟩) hb0).trans q0
            replace q1 := (HBR.out.cell (p := ⟨b0, o0 + k * 3 + 1, none⟩) hb0).trans q1
            replace q2 := (HBR.out.cell (p := ⟨b0, o0 + k * 3 + 2, none⟩) hb0).trans q2
            have hb0r := Nat.lt_of_lt_of_le hb0 HBR.out.size
            have hsb := HSM.out cs[k] (List.getElem_mem hkl)
            have HKT := hide (And.intro htk hp)
            have hlb := HLB.out k
            have HTS := hide (Ht.timeOf_snoc ((cs.take k).filter P) cs[k])
            unfold batV at HBA HTB
            replace x0 := (HBQ.out.cell (p := ⟨f5, i * 3, none⟩) hf5r).trans x0
            replace x1 := (HBQ.out.cell (p := ⟨f5, i * 3 + 1, none⟩) hf5r).trans x1
            have r0 := (HBQ.out.cell (p := ⟨b0, o0 + k * 3, none⟩) hb0r).trans q0
            have r1 := (HBQ.out.cell (p := ⟨b0, o0 + k * 3 + 1, none⟩) hb0r).trans q1
            have r2 := (HBQ.out.cell (p := ⟨b0, o0 + k * 3 + 2, none⟩) hb0r).trans q2
            generalize hbk : cs[k] = b at *
            generalize hL : ((cs.take k).filter P).flatMap Rc.bytes = L at *
            generalize hTm : Ht.timeOf ((cs.take k).filter P) = tm at *
            have HLE := hide (And.intro hL hTm)
            have HBB : Hid ((Rc.bytes b).length ≤ 300) := hide hsb
            have HLL : Hid (L.length ≤ 6000) := hide hlb
            generalize b.base = ba at *
            generalize b.epoch = ep at *
            generalize b.recs.length = m at *
            clear hgd hp htk hib hsb hlb hbk hL hTm hkl
            by_cases h1 : t1 ≤ ba
            · have d1 : decide (t1 ≤ ba) = true := decide_eq_true h1
              by_cases h2 : ba < t2
              · have d2 : decide (ba < t2) = true := decide_eq_true h2
                have HPB : Hid (P b = true) := hide (by rw [HKT.out.2, d1, d2]; rfl)
                go_wp2_with fail
                go_quiet (fail)
                go_wp2_with (first
                  | (go_at_call 39; refine (HBA.out _ (below_drewN HBQ.out _)).mono ?_; rintro e w3 ⟨v, rfl, ho, hb⟩; obtain ⟨A3, c3', rfl, ha3⟩ := ho.arg; have HO3 := hide ha3.reads; have H33 := hide ((below_drewN (Below.refl wr.heap.size wr) _).trans hb); have HOW3 := hide (HOW.out.below H33.out (Nat.le_refl _)); have s0 := (H33.out.cell (World.block_lt_of_cell? _ _ r0)).trans r0; have s1 := (H33.out.cell (World.block_lt_of_cell? _ _ r1)).trans r1; have s2 := (H33.out.cell (World.block_lt_of_cell? _ _ r2)).trans r2; clear ho hb ha3)
                  | (at_builtin; refine wpList_app rfl (.tmp 91) (.tmp 96) rfl wo.heap.size (.slice Ar L.length cr) L (Rc.bytes b) rfl HOW3.out A3 _ c3' rfl rfl HO3.out (by have := HBB.out; have := HLL.out; omega) (Nat.le_trans HBQ.out.size H33.out.size) ?_; intro v4 w4 ho4 hg4 _; have HB4 := hide ((HBQ.out.trans (H33.out.mono HBQ.out.size)).grown hg4 (Nat.le_trans HBQ.out.size H33.out.size) (fun g hg => (HOW3.out.lt g hg).1)); have HO4 := hide ho4; have y0 := (HB4.out.cell (p := ⟨b0, o0 + k * 3, none⟩) hb0r).trans q0; have y1 := (HB4.out.cell (p := ⟨b0, o0 + k * 3 + 1, none⟩) hb0r).trans q1; have y2 := (HB4.out.cell (p := ⟨b0, o0 + k * 3 + 2, none⟩) hb0r).trans q2; clear ho4 hg4)
                  | (go_at_call 40; refine (HTB.out w4 HB4.out).mono ?_; rintro e w5' ⟨rfl, hb⟩; have HB5' := hide (HB4.out.trans (hb.mono HB4.out.size)); have HO5 := hide (HO4.out.below hb (Nat.le_refl _)); clear hb)
                  | fail)
                go_roundw
                case rel =>
                  refine ⟨k + 1, by omega, by go_num, ?_, ?_, HB5'.out⟩
                  · rw [HKT.out.1, if_pos HPB.out, List.flatMap_append, HLE.out.1]
                    simpa using HO5.out
                  · rw [HKT.out.1, if_pos HPB.out, HTS.out]
                case measure => simp [intOf]; omega
              · have d2 : decide (ba < t2) = false := decide_eq_false h2
                have HPB : Hid (¬ P b = true) := hide (by rw [HKT.out.2, d1, d2]; simp)
                go_wp2_with fail
                go_quiet (fail)
                go_wp2_with fail
                go_roundw
                case rel =>
                  refine ⟨k + 1, by omega, by go_num, ?_, ?_, below_drewN HBQ.out _⟩
                  · rw [HKT.out.1, if_neg HPB.out, List.append_nil, HLE.out.1]
                    exact HOW.out.below (below_drewN (Below.refl _ _) _) (Nat.le_refl _)
                  · rw [HKT.out.1, if_neg HPB.out, List.append_nil, HLE.out.2]
                case measure => simp [intOf]; omega
            · have d1 : decide (t1 ≤ ba) = false := decide_eq_false h1
              have HPB : Hid (¬ P b = true) := hide (by rw [HKT.out.2, d1]; simp)
              go_wp2_with fail
              go_quiet (fail)
              go_wp2_with fail
              go_roundw
              case rel =>
                refine ⟨k + 1, by omega, by go_num, ?_, ?_, below_drewN HBQ.out _⟩
                · rw [HKT.out.1, if_neg HPB.out, List.append_nil, HLE.out.1]
                  exact HOW.out.below (below_drewN (Below.refl _ _) _) (Nat.le_refl _)
                · rw [HKT.out.1, if_neg HPB.out, List.append_nil, HLE.out.2]
              case measure => simp [intOf]; omega
          · obtain rfl : k = n := by omega
            have hcs : cs.take k = cs := List.take_of_length_le (by rw [HLN.out]; omega)
            have hlb := HLB.out k
            rw [hcs, HFI.out] at HOW HAR hlb ⊢
            replace x0 := (HBQ.out.cell (p := ⟨f5, i * 3, none⟩) hf5r).trans x0
            have HLL := hide hlb
            clear hcs hlb HLB HFI HPE
            generalize gb.flatMap Rc.bytes = L at *
            generalize Ht.timeOf gb = tm at *
            have u1 : (tm != tm) = false := bne_self_eq_false _
            go_wp2_with (first
              | (go_at_call 41; refine (HRW.out wr HBQ.out).mono ?_; rintro e w3 ⟨v, rfl, ho, hb⟩; obtain ⟨A3, c3', rfl, -⟩ := ho.arg; have HO3 := hide ho; have HB3 := hide (HBQ.out.trans (hb.mono HBQ.out.size)); have HOW3 := hide (HOW.out.below hb (Nat.le_refl _)); have x03 := (hb.cell (World.block_lt_of_cell? _ _ x0)).trans x0; clear ho hb)
              | (go_at_call 42; refine (HTM.out w3 HB3.out).mono ?_; rintro e w4' ⟨rfl, hb⟩; have HO4 := hide (HO3.out.below hb (Nat.le_refl _)); have HB4' := hide (HB3.out.trans (hb.mono HB3.out.size)); have HOW4 := hide (HOW3.out.below hb (Nat.le_refl _)); have x04 := (hb.cell (World.block_lt_of_cell? _ _ x03)).trans x03; clear hb)
              | (go_at_call 43; refine (HMK.out w4' HB4'.out).mono ?_; rintro e w5' ⟨v, rfl, ⟨lm, ho, h6⟩, hb⟩; obtain ⟨A6, c6, rfl, -⟩ := ho.arg; have d6 : decide ((lm.length : Int) < 6) = false := decide_eq_false (by omega); have HO5 := hide (HO4.out.below hb (Nat.le_refl _)); have HB5' := hide (HB4'.out.trans (hb.mono HB4'.out.size)); have HOW5 := hide (HOW4.out.below hb (Nat.le_refl _)); clear ho h6 hb)
              | (go_at_call 44; refine (sameBytes_eq A3 Ar c3' cr L.length L w5' rfl (by have := HLL.out; omega) (own_readsM HO5.out) (own_readsM HOW5.out)).mono ?_; rintro e w6 ⟨rfl, kk, hw6⟩; have HB6 : Hid (Below wo.heap.size wo w6) := hide (by rw [hw6]; exact below_drewN HB5'.out kk); clear hw6)
              | fail)
            refine ⟨⟨i + 1, by omega, by simp, HBR.out.trans (HB6.out.mono HBR.out.size)⟩, by simp [intOf]; omega⟩
      · obtain rfl : i = G := by omega
        have HNB : Hid (∀ g ∈ gs, 0 ≤ g.1 ∧ g.1 ≤ 100) := hide (by
          rcases Classical.em (cs = []) with h0 | h0
          · rw [HNI.out h0]
            intro g hg
            rw [List.mem_singleton.1 hg]
            exact ⟨Int.le_refl _, by show (0 : Int) ≤ 100; omega⟩
          · have h1 := HTI.out.resolve_left h0
            have hone := HCO.out.one
            have hend : Ht.endT 0 gs = Ht.lastOff 0 cs := by
              obtain ⟨g0, o, ds, e, hlo, -⟩ := Ht.grp_last sz 0 cs
              rw [HGE.out, e, Ht.endT_snoc, ← hlo]
            have hoff : ∀ k, k ≤ cs.length → Ht.lastOff 0 (cs.take k) ≤ 5 * k := fun k => by
              induction k with
              | zero => intro _; exact Int.le_refl _
              | succ k ih =>
                intro hk
                have h2 := ih (by omega)
                have h3 := Ht.base_at (s0 := Sg.begin (Nm.seg 0) 0 60) (base := 0) rfl HCH.out k (by omega)
                have h4 := HR5.out cs[k] (List.getElem_mem _)
                rw [List.take_succ_eq_append_getElem (by omega), Ht.lastOff_snoc, h3]
                omega
            have h2 := hoff cs.length (Nat.le_refl _)
            rw [List.take_length] at h2
            intro g hg
            obtain ⟨j, hj, rfl⟩ := List.getElem_of_mem hg
            rw [(Ht.tight_at gs 0 h1 j hj).1]
            have h3 := Ht.endT_take gs 0 h1 hone j (by omega)
            have h5 : (0 : Int) ≤ Ht.endT 0 (gs.take j) := by
              have e1 : gs = gs.take j ++ gs.drop j := (List.take_append_drop _ _).symm
              exact Ht.endT_le (gs.take j) 0 (Ht.tight_app (gs.take j) 0 (gs.drop j) (by rw [← e1]; exact h1)).1 (fun g hg => hone g (List.mem_of_mem_take hg))
            have := HLN.out
            rw [hend] at h3
            omega)
        have H6 := H5.out.grow HBR.out
        have HRN := hide (fun (W : World) (hW : Below wo.heap.size wo W) => htRaw_none (H6.grow hW) p (HS.out.below HB2.out) (by have := HGG.out; omega) (-1 - ak) (fun g hg e => by have := HNB.out g hg; have := HM.out; omega))
        have HTN := hide (fun (W : World) (hW : Below wo.heap.size wo W) => htTime_none (H6.grow hW) p (HS.out.below HB2.out) (by have := HGG.out; omega) 549755813888 (fun g hg e => by have := HNB.out g hg; omega))
        have HBO := hide (HB5.out.trans (HBR.out.mono HB5.out.size))
        have HIS := hide (fun (W : World) (hW : Below w.heap.size w W) => ((is_sent W p (HS2.out.below hW) 6 (by omega) 107).mono (fun e w' ⟨h1, h2⟩ => ⟨by rw [h1]; rfl, h2⟩) : Calls Tryz.prog 25 #[errV (p 6), .int .i64 107] W fun e w' => e = .returned (.bool true) ∧ Below W.heap.size W w'))
        have HPX := hide (HPR.out _ wo _ _ _ H6)
        have HPL := hide (Ht.prs_len (cs.map Ht.pr))
        obtain ⟨NP, hNP⟩ : ∃ NP, NP = (Ht.prs (cs.map Ht.pr)).length := ⟨_, rfl⟩
        have HNP := hide hNP
        have hNL : NP ≤ 20 := by have := HPL.out; rw [List.length_map, HLN.out] at this; omega
        clear H6 hNP
        go_wp2_with (first
          | (go_at_call 38; refine HPX.out.mono ?_; rintro e w6 ⟨v, rfl, ho, hb⟩; obtain ⟨A6, c6, rfl, hp6⟩ := ho.at_; rw [← HNP.out]; have HP6 := hide hp6; have HB6 := hide hb; clear ho hp6 hb)
          | fail)
        have HBT6 := hide ((HBT5.out.below HBR.out (Nat.le_refl _)).below HB6.out (Nat.le_refl _))
        go_loopw [23, 24] (fun nv kv wr => ∃ k : Nat, k ≤ n ∧ kv = .int .i64 k ∧ nv = .int .i64 ((Ht.prs ((cs.take k).map Ht.pr)).length : Nat) ∧ Below w6.heap.size w6 wr) (fun _ kv _ => n - (intOf kv).toNat)
        case atStart => exact ⟨0, Nat.zero_le _, rfl, rfl, Below.refl _ _⟩
        case round =>
          obtain ⟨k, hk, rfl, rfl, hb⟩ := hrel
          have HBQ := hide hb
          clear hb
          by_cases hlk : k < n
          · have hkl : k < cs.length := by rw [HLN.out]; exact hlk
            obtain ⟨b0, o0, hA2, hb0, Ax, cx, q0, q1, -, -⟩ := (HBT6.out.below HBQ.out (Nat.le_refl _)).at_ k hkl
            obtain ⟨b0', o0', hA2', hb0', Ax', cx', q0', q1', -, -⟩ := (HBT6.out.below HBQ.out (Nat.le_refl _)).at_ (k - 1) (by omega)
            rw [hA2] at hA2'
            injection hA2' with e1
            injection e1 with e1 e2
            subst e1 e2 hA2
            clear q0' hb0' hb0
            have hkw : 0 < k → IntKind.i64.wrap ((k : Int) - 1) = ((k - 1 : Nat) : Int) := fun h => by rw [IntKind.wrap_i64]; omega
            have hpush : (k = 0 ∨ cs[k].epoch ≠ (cs[k - 1]'(by omega)).epoch) → Ht.prs ((cs.take (k + 1)).map Ht.pr) = Ht.prs ((cs.take k).map Ht.pr) ++ [⟨cs[k].epoch, cs[k].base⟩] := fun h => Ht.prs_at cs k hkl (h.imp_right fun h => ⟨by omega, h⟩)
            have hsame : 0 < k → cs[k].epoch = (cs[k - 1]'(by omega)).epoch → Ht.prs ((cs.take (k + 1)).map Ht.pr) = Ht.prs ((cs.take k).map Ht.pr) := fun h0 h => by
              obtain ⟨j, rfl⟩ : ∃ j, k = j + 1 := ⟨k - 1, by omega⟩
              exact Ht.prs_same cs j hkl h
            have hpre : ∃ t, Ht.prs (cs.map Ht.pr) = Ht.prs ((cs.take (k + 1)).map Ht.pr) ++ t := by
              have := Ht.prs_pre (cs.take (k + 1)) (cs.drop (k + 1))
              rw [List.take_append_drop] at this
              exact this
            have HPU := hide hpush
            have HSA := hide hsame
            have HPE := hide hpre
            clear hpush hsame hpre
            generalize cs[k].epoch = ep at *
            generalize cs[k].base = ba at *
            generalize (cs[k - 1]'(by omega)).epoch = ep' at *
            generalize hps : Ht.prs ((cs.take k).map Ht.pr) = ps at *
            generalize hps1 : Ht.prs ((cs.take (k + 1)).map Ht.pr) = ps1 at *
            have HSEE : Hid ((k = 0 ∨ ep ≠ ep') → ∃ g o, A6 = some ⟨g, o, none⟩ ∧ g < w6.heap.size ∧ w6.cell? ⟨g, o + ps.length * 2, none⟩ = some (.int .i64 ep) ∧ w6.cell? ⟨g, o + ps.length * 2 + 1, none⟩ = some (.int .i64 ba) ∧ ps.length < NP) := hide fun h => by
              obtain ⟨t, e⟩ := HPE.out
              rw [HPU.out h] at e
              have hl : ps.length < (Ht.prs (cs.map Ht.pr)).length := by rw [e]; simp
              obtain ⟨g, o, h1, h2, h3, h4⟩ := HP6.out.at_ ps.length hl
              have e3 : Ep.pr (Ht.prs (cs.map Ht.pr)) ps.length = ⟨ep, ba⟩ := by
                rw [e]
                simp [Ep.pr, List.getD]
              rw [e3] at h3 h4
              exact ⟨g, o, h1, h2, h3, h4, by rw [HNP.out]; exact hl⟩
            rcases Nat.eq_zero_or_pos k with hk0 | hk0
            · subst hk0
              have q00 : wr.cell? ⟨b0, o0, none⟩ = some (.int .i64 ba) := by simpa using q0
              have q10 : wr.cell? ⟨b0, o0 + 1, none⟩ = some (.int .i64 ep) := by simpa using q1
              obtain ⟨f6, o6, hA6, hf6, z0, z1, hnl⟩ := HSEE.out (Or.inl rfl)
              subst hA6
              replace z0 := (HBQ.out.cell (p := ⟨f6, o6 + ps.length * 2, none⟩) hf6).trans z0
              replace z1 := (HBQ.out.cell (p := ⟨f6, o6 + ps.length * 2 + 1, none⟩) hf6).trans z1
              have HLN1 : Hid (ps1.length = ps.length + 1) := hide (by rw [HPU.out (Or.inl rfl)]; simp)
              have hc6 : ps.length < c6 := by have := HP6.out.le; rw [← HNP.out] at this; omega
              have hm6 := HP6.out.mx
              generalize ps.length = NN at *
              have dge : decide (NP ≤ NN) = false := decide_eq_false (by omega)
              have u5 : (ep != ep) = false := bne_self_eq_false _
              have u6 : (ba != ba) = false := bne_self_eq_false _
              go_wp2_with fail
              go_quiet (fail)
              go_wp2_with fail
              go_quiet (fail)
              go_wp2_with fail
              go_roundw
              case rel => exact ⟨1, by omega, by go_num, by rw [hps1, HLN1.out]; go_num, below_drewN HBQ.out _⟩
              case measure => simp [intOf]; omega
            · obtain ⟨j, hj⟩ : ∃ j, k = j + 1 := ⟨k - 1, by omega⟩
              subst hj
              simp only [Nat.add_sub_cancel] at q1' hkw
              have hkw := hkw hk0
              have e0 : ((((j + 1 : Nat) : Int)) == 0) = false := by simp; omega
              have e0' : (((j : Int) + 1) == 0) = false := by simp; omega
              by_cases he : ep = ep'
              · have u4 : (ep != ep') = false := by simp [he]
                have HS1 : Hid (ps1 = ps) := hide (HSA.out hk0 he)
                clear he HSEE HPU HSA HPE
                go_wp2_with fail
                go_quiet (fail)
                go_wp2_with fail
                go_roundw
                case rel => exact ⟨j + 1 + 1, by omega, by go_num, by rw [hps1, HS1.out], below_drewN HBQ.out _⟩
                case measure => simp [intOf]; omega
              · have u4 : (ep != ep') = true := by simp [he]
                obtain ⟨f6, o6, hA6, hf6, z0, z1, hnl⟩ := HSEE.out (Or.inr he)
                subst hA6
                replace z0 := (HBQ.out.cell (p := ⟨f6, o6 + ps.length * 2, none⟩) hf6).trans z0
                replace z1 := (HBQ.out.cell (p := ⟨f6, o6 + ps.length * 2 + 1, none⟩) hf6).trans z1
                have HLN1 : Hid (ps1.length = ps.length + 1) := hide (by rw [HPU.out (Or.inr he)]; simp)
                have hc6 : ps.length < c6 := by have := HP6.out.le; rw [← HNP.out] at this; omega
                have hm6 := HP6.out.mx
                generalize ps.length = NN at *
                have dge : decide (NP ≤ NN) = false := decide_eq_false (by omega)
                have u5 : (ep != ep) = false := bne_self_eq_false _
                have u6 : (ba != ba) = false := bne_self_eq_false _
                go_wp2_with fail
                go_quiet (fail)
                go_wp2_with fail
                go_quiet (fail)
                go_wp2_with fail
                go_roundw
                case rel => exact ⟨j + 1 + 1, by omega, by go_num, by rw [hps1, HLN1.out]; go_num, below_drewN HBQ.out _⟩
                case measure => simp [intOf]; omega
          · obtain rfl : k = n := by omega
            have hcs : cs.take k = cs := List.take_of_length_le (by rw [HLN.out]; omega)
            rw [hcs, ← HNP.out]
            have uN : ((NP : Int) == NP) = true := beq_self_eq_true _
            have HWR := hide (HB6.out.trans (HBQ.out.mono HB6.out.size))
            clear hcs HNP HP6
            go_wp2_with (first
              | (go_at_call 14; refine (HLG.out wr).mono ?_; rintro e w' ⟨rfl, rfl⟩)
              | (go_at_call 41; refine (HRN.out wr HWR.out).mono ?_; rintro e w7 ⟨rfl, hb⟩; have HB7 := hide (HWR.out.trans (hb.mono HWR.out.size)); clear hb)
              | (go_at_call 42; refine (HTN.out w7 HB7.out).mono ?_; rintro e w8 ⟨rfl, hb⟩; have HB8 := hide (HBO.out.trans ((HB7.out.trans (hb.mono HB7.out.size)).mono HBO.out.size)); clear hb)
              | (have := HB9.out; clear this; go_at_call 25; refine (HIS.out w9 HB9.out).mono ?_; rintro e w10 ⟨rfl, hb⟩; have HB10 := hide (HB9.out.trans (hb.mono HB9.out.size)); clear hb)
              | (go_at_call 25; refine (HIS.out w8 HB8.out).mono ?_; rintro e w9 ⟨rfl, hb⟩; have HB9 := hide (HB8.out.trans (hb.mono HB8.out.size)); clear hb)
              | fail)
            go_ret
            exact ⟨rfl, HB10.out⟩
  · go_enter Tryz.func9, Tryz.ntmps9
    go_wp2_with (first
      | (go_at_call 12; refine HF.out.mono ?_; rintro e w1 ⟨rfl, hb⟩; have HB1 := hide hb; clear hb)
      | fail)
    go_ret
    exact ⟨rfl, HB1.out⟩
end Go.Proofs.YtcmgppacipdnaaaGreatDoor
