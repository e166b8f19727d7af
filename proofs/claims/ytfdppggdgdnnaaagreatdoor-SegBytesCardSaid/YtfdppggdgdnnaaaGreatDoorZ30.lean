/-
  SegBytes walked.
-/
import Derived.Test.YtfdppggdgdnnaaaGreatDoorZ27
import Derived.Test.YtfdppggdgdnnaaaGreatDoorZ19
import Derived.Test.YtfdppggdgdnnaaaGreatDoorZ16
import Derived.Test.YtfdppggdgdnnaaaGreatDoorZ21
import Derived.Test.YtfdppggdgdnnaaaGreatDoorZ29
import Derived.Test.YtfdppggdgdnnaaaGreatDoorZ7
import Derived.Deep.CutBlock
namespace Go.Proofs.YtfdppggdgdnnaaaGreatDoor
open Go.RowKit Go.Maps Go.Sort

namespace Sg
/-- What a segment comes to behind the first j batches. -/
def eAt (s : St) (xs : List Rc.Bat) (j : Nat) : Edge := last (adds s (xs.take j)).edges
theorem eAt_succ (s : St) (xs : List Rc.Bat) (j : Nat) (hj : j < xs.length) : eAt s xs (j + 1) = step (eAt s xs j) xs[j] (Rc.bytes xs[j]).length := by
  unfold eAt
  rw [List.take_succ_eq_append_getElem hj, adds_append, adds_cons, adds_nil, add_last]
theorem follows_eAt (s : St) (xs : List Rc.Bat) (j : Nat) (b : Rc.Bat) : follows (adds s (xs.take j)).edges b = (decide (b.base = (eAt s xs j).off) && decide ((eAt s xs j).ep ≤ b.epoch)) := rfl
end Sg

set_option maxRecDepth 100000 in
set_option maxHeartbeats 4000000 in
theorem segBytes_any (w : World) (p : Nat → Addr) (hs : SentsG w p) (ht : Tabs w) (hpt : PowTab w) (A : Option Addr) (cap n : Nat) (raw : List UInt8) (bs : Int) (hn : raw.length = n) (ha : Arg w A cap raw) (hbs : -9223372036854775808 ≤ bs ∧ bs ≤ 9223372036854775807) :
    Calls Tryz.prog 6 #[.slice A n cap, .int .i64 bs] w fun e w' => e = .returned (.bool true) ∧ Below w.heap.size w w' := by
  have HFI := hide (segFirst_any w p hs ht hpt)
  have HS := hide hs
  have HT := hide ht
  have HPT := hide hpt
  have HA := hide ha
  have HN := hide hn
  have m1 := Int.emod_nonneg bs (show (100 : Int) ≠ 0 by omega)
  have m2 := Int.emod_lt_of_pos bs (show (0 : Int) < 100 by omega)
  have HLG := hide (fun (W : World) => long_any bs 100 W (by omega) (by omega) hbs.1 hbs.2)
  obtain ⟨o, hO⟩ : ∃ o, o = bs % 100 := ⟨_, rfl⟩
  rw [← hO] at m1 m2 HLG
  clear hO hs ht hpt ha hn hbs
  by_cases lz : 1000 < n
  · go_enter Tryz.func6, Tryz.ntmps6
    go_wp2_with (first
      | (go_at_call 9; refine HFI.out.mono ?_; rintro e w1 ⟨rfl, hb1⟩; have HB1 := hide hb1; clear hb1)
      | (go_at_call 10; refine (HLG.out w1).mono ?_; rintro e wv ⟨rfl, hwv⟩; obtain rfl : w1 = wv := hwv)
      | fail)
    go_ret
    exact ⟨rfl, HB1.out⟩
  have ho2 : 0 ≤ o ∧ o ≤ 1099511627776 := by omega
  have hkv := seg_valid ho2
  have hkl := seg_name ho2
  obtain ⟨d1, hcr, hds⟩ := bytes_disk (Nm.seg o) hkv raw (by rw [HN.out]; omega)
  obtain ⟨s0, hs0⟩ : ∃ s0, s0 = Sg.begin (Nm.seg o) o 50 := ⟨_, rfl⟩
  have hz0 : (Sg.last s0.edges).pos = 0 := by rw [hs0]; rfl
  have hf0 : s0.file = Nm.seg o := by rw [hs0]; rfl
  have hl0 : s0.edges.length = 1 := by rw [hs0]; rfl
  have hp0 : (Sg.ed s0.edges 0).pos = 0 := by rw [hs0]; rfl
  have hst0 : Sg.eAt s0 (Rc.all raw).1 0 = ⟨o, 0, 0, 0⟩ := by rw [hs0]; rfl
  obtain ⟨K, hK, htk, hch, hgd, ⟨rest, hrest⟩, hno⟩ := Sg.take_all raw s0 hz0
  have HALL := hide (fun (W : World) (hw : Below w.heap.size w W) => rall_any A cap n raw W HN.out (by omega) (HA.out.below hw (Nat.le_refl _)))
  unfold RAll at HALL
  obtain ⟨xs, hxs⟩ : ∃ xs, xs = (Rc.all raw).1 := ⟨_, rfl⟩
  obtain ⟨m, hm⟩ : ∃ m, m = xs.length := ⟨_, rfl⟩
  rw [← hxs] at hK htk hch hgd hrest hno hst0 HALL
  -- what each edge comes to
  have hpre : ∀ j, j ≤ K → (Sg.eAt s0 xs j).pos = (((xs.take j).flatMap Rc.bytes).length : Int) ∧ ((xs.take j).flatMap Rc.bytes).length ≤ n := fun j hj => by
    refine ⟨?_, ?_⟩
    · unfold Sg.eAt
      rw [Sg.adds_pos, hz0]
      omega
    · have h1 := congrArg List.length hrest
      rw [List.length_append] at h1
      have h2 := Sg.flat_take_le xs j K hj
      have := HN.out
      omega
  have hfo : ∀ j (hj : j < K) (hjl : j < xs.length), xs[j].base = (Sg.eAt s0 xs j).off ∧ (Sg.eAt s0 xs j).ep ≤ xs[j].epoch := fun j hj hjl => by
    have h := chain_next hch j (by rw [List.length_take]; omega)
    rw [List.take_take, Nat.min_eq_left (by omega), List.getElem_take, Sg.follows_eAt, Bool.and_eq_true] at h
    exact ⟨of_decide_eq_true h.1, of_decide_eq_true h.2⟩
  have hend : K = m ∨ ∃ hjl : K < xs.length, xs[K].base ≠ (Sg.eAt s0 xs K).off ∨ xs[K].base = (Sg.eAt s0 xs K).off ∧ xs[K].epoch < (Sg.eAt s0 xs K).ep := by
    by_cases h : K < xs.length
    · right
      refine ⟨h, ?_⟩
      have h2 := hno h
      rw [Sg.follows_eAt] at h2
      by_cases h3 : xs[K].base = (Sg.eAt s0 xs K).off
      · right
        refine ⟨h3, ?_⟩
        rw [decide_eq_true h3, Bool.true_and] at h2
        have := of_decide_eq_false h2
        omega
      · exact .inl h3
    · left; omega
  have hek : (Sg.last (Sg.take raw s0).edges) = Sg.eAt s0 xs K := by rw [htk]; rfl
  have hfl1 : (Sg.take raw s0).file = Nm.seg o := by rw [htk, (Sg.adds_file _ s0).1, hf0]
  have he0 : (Sg.ed (Sg.take raw s0).edges 0).pos = 0 := by rw [htk, Sg.adds_ed _ s0 0 (by omega)]; exact hp0
  obtain ⟨M, hM⟩ : ∃ M : Nat, (M : Int) = (Sg.eAt s0 xs K).pos := ⟨((xs.take K).flatMap Rc.bytes).length, (hpre K (Nat.le_refl _)).1.symm⟩
  have hMn : M ≤ n := by have := (hpre K (Nat.le_refl _)); omega
  have HNW := hide (fun (W : World) => new_sessS 5000 W W (Below.refl _ _) (by omega) (by omega))
  have HCR := hide (fun (W0 W : World) (S : Nat → Prop) (Bd : Nat) (hb : Below w.heap.size w W0) (h : SessS S W0 0 Bd (Dk.St.new 5000) W) => h.create p (SentsG.d (HS.out.below hb)) (by omega) (Nm.seg o) (by omega) W.heap.size rfl)
  have HDS := hide hds
  have HHC := hide hcr
  have HPRE := hide hpre
  have HFO := hide hfo
  have HST := hide hst0
  have HGD := hide hgd
  have HM := hide hM
  have HEK := hide hek
  have HFL := hide hfl1
  have HE0 := hide he0
  have HKL := hide hkl
  have hKm : K ≤ m := by omega
  rw [← hm] at HALL
  have HMX := hide hm
  have HSEG := hide (segment1_any o)
  have HTAKE : Hid (s0 = Sg.begin (Nm.seg o) o 50) := hide hs0
  clear hkv hcr hds hz0 hf0 hl0 hp0 htk hch hno hrest hpre hfo hst0 hgd hek hfl1 he0 hs0 hK hM hm hxs
  obtain ⟨ob, hob⟩ : ∃ ob, ob = encStr (Nm.seg o) := ⟨_, rfl⟩
  have hse : str (Nm.seg o) = ob := hob.symm ▸ rfl
  rw [hse] at HSEG
  have HOB := hide hob
  clear hob hse
  have dn : decide ((1000 : Int) < n) = false := decide_eq_false (by omega)
  go_enter Tryz.func6, Tryz.ntmps6
  go_upto_region 9 with (first
    | (go_at_call 9; refine HFI.out.mono ?_; rintro e w1 ⟨rfl, hb1⟩; have HB1 := hide hb1; clear hb1)
    | (go_at_call 10; refine (HLG.out w1).mono ?_; rintro e wv ⟨rfl, hwv⟩; obtain rfl : w1 = wv := hwv)
    | (go_at_call 41; refine (HNW.out w1).mono ?_; rintro e w2 ⟨Bd, rfl, hh2, -⟩; have H2 := hide hh2; clear hh2 HNW)
    | (go_at_call 42; refine (HSEG.out w2).mono ?_; rintro e wv ⟨rfl, hwv⟩; obtain rfl : w2 = wv := hwv.symm)
    | fail)
  have hcr2 := HCR.out w1 w2 _ Bd HB1.out H2.out
  rw [HHC.out, ← HOB.out] at hcr2
  simp only at hcr2
  obtain ⟨d2, hap, hfi, hle, hrd, hcs⟩ := HDS.out w2.heap.size
  have HC2 := hide hcr2
  have HAP := hide (fun (W : World) (S : Nat → Prop) (h : SessS S w1 1 Bd (d1 w2.heap.size) W) (hlo : ∀ k, S k → w.heap.size ≤ k) => h.append p (SentsG.d (HS.out.below HB1.out)) (by omega) (Nm.seg o) (by rw [HKL.out]; omega) A cap n raw ((HA.out.below HB1.out (Nat.le_refl _)).below h.below (Nat.le_refl _)) HN.out (by omega) (fun x o' e hne hS => by have := HA.out.lt x o' e hne; have := hlo _ hS; omega))
  rw [hap, ← HOB.out] at HAP
  simp only at HAP
  have HFI2 := hide hfi
  have HLE := hide hle
  have HRD := hide hrd
  have HCS := hide hcs
  clear hcr2 hap hfi hle hrd hcs HCR HHC HDS
  go_upto_region 12 with (first
    | (go_at_call 43; refine HC2.out.mono ?_; rintro e w3 ⟨rfl, hh3, -⟩; have H3 := hide hh3; clear hh3 HC2; unfold errR)
    | (go_at_call 44; refine (HAP.out w3 _ H3.out (fun k hk => Nat.le_trans HB1.out.size (H3.out.lo k hk).1)).mono ?_; rintro e w4 ⟨rfl, hh4, -⟩; have H4 := hide hh4; clear hh4 HAP; unfold errR)
    | (go_at_call 45; refine (HALL.out w4 (HB1.out.trans (H4.out.below.mono HB1.out.size))).mono ?_; rintro e w5 ⟨⟨A5, c5, rfl, hc5, hm5, hbt5⟩, hb5⟩; have HBT := hide hbt5; have H5 := hide (H4.out.grow hb5); clear hbt5 hb5 H4 HALL)
    | fail)
  generalize (Rc.all raw).2.1 = z10
  generalize (Rc.all raw).2.2 = z11
  go_wp2_with fail
  go_loopw [12, 13, 14, 15] (fun kv av ev sv wr => ∃ j : Nat, j ≤ K ∧ kv = .int .i64 j ∧ av = .int .i64 (Sg.eAt s0 xs j).off ∧ ev = .int .i64 (Sg.eAt s0 xs j).ep ∧ sv = .int .i64 (Sg.eAt s0 xs j).pos ∧ Below w5.heap.size w5 wr) (fun kv _ _ _ _ => K - (intOf kv).toNat)
  case atStart => exact ⟨0, Nat.zero_le _, rfl, by rw [HST.out], by rw [HST.out], by rw [HST.out], Below.refl _ _⟩
  case round =>
    obtain ⟨j, hj, rfl, rfl, rfl, rfl, hbr⟩ := hrel
    have HBR := hide hbr
    clear hbr
    by_cases hlt : j < K
    · have hjx : j < xs.length := by rw [← HMX.out]; omega
      obtain ⟨bj, oj, rfl, hbj, Aj, cj, y0, y1, y2, hib⟩ := (HBT.out.below HBR.out (Nat.le_refl _)).at_ j hjx
      obtain ⟨hbase, hep⟩ := HFO.out j hlt hjx
      have hsu := Sg.eAt_succ s0 xs j hjx
      have hg := HGD.out _ (List.getElem_mem hjx)
      have hp1 := HPRE.out j hj
      have hp2 := HPRE.out (j + 1) hlt
      have HNX := hide (fun (W : World) => rnext_any xs[j] Aj cj xs[j].recs.length W rfl hg.base0 (by have := hg.base1; omega) (by have := hg.n1; omega))
      have HSZ := hide (fun (W : World) (hw : Below wr.heap.size wr W) => rsize1_any xs[j] Aj cj xs[j].recs.length W (hib.below hw (Nat.le_refl _)) hg rfl)
      have e1 : (Sg.eAt s0 xs (j + 1)).off = xs[j].base + xs[j].recs.length := by rw [hsu]; rfl
      have e2 : (Sg.eAt s0 xs (j + 1)).ep = xs[j].epoch := by rw [hsu]; rfl
      have e3 : (Sg.eAt s0 xs (j + 1)).pos = (Sg.eAt s0 xs j).pos + ((Rc.bytes xs[j]).length : Nat) := by rw [hsu]; rfl
      obtain ⟨u, hu⟩ : ∃ u : Nat, (u : Int) = (Sg.eAt s0 xs j).pos := ⟨_, hp1.1.symm⟩
      have hub : (u : Int) + ((Rc.bytes xs[j]).length : Nat) ≤ 1000 := by rw [hu, ← e3]; omega
      rw [← hu]
      rw [← hu] at e3
      rw [hbase] at y0 HNX HSZ e1
      unfold batV at HNX HSZ
      have HE1 := hide e1
      have HE2 := hide e2
      have HE3 := hide e3
      clear hbase hsu hg hp1 hp2 hu e1 e2 e3 hib
      generalize (Sg.eAt s0 xs j).off = of at *
      generalize (Sg.eAt s0 xs j).ep = ep at *
      generalize xs[j].epoch = xe at *
      generalize xs[j].recs.length = rl at *
      generalize (Rc.bytes xs[j]).length = L at *
      have dl : decide ((j : Int) < m) = true := decide_eq_true (by omega)
      have dln : decide (j < m) = true := decide_eq_true (by omega)
      have dge : decide (ep ≤ xe) = true := decide_eq_true hep
      have hwu : IntKind.i64.wrap ((u : Int) + (L : Int)) = (u : Int) + (L : Int) := by rw [IntKind.wrap_i64]; omega
      go_wp2_with (first
        | (go_at_call 18; refine (HNX.out wr).mono ?_; rintro e w7 ⟨rfl, hb7⟩; have HB7 := hide hb7; have y0' := (hb7.cell (p := ⟨bj, oj + j * 3, none⟩) hbj).trans y0; have y1' := (hb7.cell (p := ⟨bj, oj + j * 3 + 1, none⟩) hbj).trans y1; have y2' := (hb7.cell (p := ⟨bj, oj + j * 3 + 2, none⟩) hbj).trans y2; clear hb7 HNX)
        | (go_at_call 46; refine (HSZ.out w7 HB7.out).mono ?_; rintro e w8 ⟨rfl, hb8⟩; have HB8 := hide hb8; clear hb8 HSZ)
        | fail)
      go_roundw
      case rel => exact ⟨j + 1, hlt, by go_num, by rw [HE1.out], by rw [HE2.out], by rw [HE3.out], HBR.out.trans ((HB7.out.trans (HB8.out.mono HB7.out.size)).mono HBR.out.size)⟩
      case measure => simp [intOf]; omega
    · obtain rfl : j = K := by omega
      obtain ⟨d3, d4, hct, hsy, hr4⟩ := HCS.out M (by rw [HN.out]; exact hMn)
      have hop := sgOpen_good w1 wr _ _ Bd d2 o 50 p (H5.out.grow HBR.out) (HS.out.below HB1.out) (by omega) ho2 (by omega) (HT.out.below HB1.out (Nat.le_refl _)) (HPT.out.below HB1.out) raw _ M d3 d4 HFI2.out HLE.out HRD.out (by rw [HN.out]; omega) rfl (by rw [← HTAKE.out, HEK.out]; exact HM.out.symm) (by rw [HN.out]; omega) hct hsy
      rw [← HTAKE.out, HN.out] at hop
      obtain ⟨s', hs'⟩ : ∃ s', s' = { Sg.take raw s0 with synced := (M : Int) } := ⟨_, rfl⟩
      rw [← hs'] at hop
      have hlast : Sg.last s'.edges = Sg.eAt s0 xs j := by rw [hs']; exact HEK.out
      have hraw : sgRaw d4 s' 0 (s'.edges.length - 1) = (none, raw.take M) := by
        have h1 : s'.file = Nm.seg o := by rw [hs']; exact HFL.out
        have h2 : (Sg.ed s'.edges 0).pos = 0 := by rw [hs']; exact HE0.out
        have h3 : (Sg.ed s'.edges (s'.edges.length - 1)).pos = M := by rw [show Sg.ed s'.edges (s'.edges.length - 1) = Sg.last s'.edges from rfl, hlast]; exact HM.out.symm
        unfold sgRaw
        rw [h1, h2, h3, Int.sub_zero]
        exact hr4
      have HOP := hide hop
      have HLA := hide hlast
      have HRW := hide hraw
      rw [← HM.out]
      clear hct hsy hr4 hop hlast hraw hs' HFI2 HLE HRD HCS
      generalize Sg.eAt s0 xs j = ej at *
      obtain ⟨of, ps, ep, tm⟩ := ej
      simp only at *
      have hlen : (raw.take M).length = M := by rw [List.length_take, HN.out]; omega
      have HLEN := hide hlen
      have hncap : n ≤ cap := by have := HA.out.le; rw [HN.out] at this; exact this
      have hcapm := HA.out.max
      have hwn : IntKind.i64.wrap ((n : Int) - (M : Int)) = (n : Int) - (M : Int) := by rw [IntKind.wrap_i64]; omega
      clear hlen
      have hend3 : (decide ((j : Int) < m) = false ∧ decide (j < m) = false) ∨ (decide ((j : Int) < m) = true ∧ ∃ hjl : j < xs.length, xs[j].base ≠ of ∨ xs[j].base = of ∧ xs[j].epoch < ep) := by
        rcases hend with h | ⟨h, h2⟩
        · exact .inl ⟨decide_eq_false (by omega), decide_eq_false (by omega)⟩
        · exact .inr ⟨decide_eq_true (by rw [HMX.out]; omega), h, h2⟩
      clear hend
      have HEN := hide (fun (X : Nat) (T9 : Nat → Prop) (W : World) (h : SegAt W X Bd s' T9) (ho : Sg.Ok s') => sgEnd_any X Bd s' T9 W h ho)
      have HZN := hide (fun (X : Nat) (T9 : Nat → Prop) (W : World) (h : SegAt W X Bd s' T9) (ho : Sg.Ok s') => sgSize_any X Bd s' T9 W h ho)
      have HRA := hide (fun (X : Nat) (S9 T9 : Nat → Prop) (W : World) (h : SgW w1 S9 T9 (0 + 1 + 1 + 2) Bd d4 X s' W) => sgRawAll_any w1 W S9 T9 _ Bd X d4 s' p h (HS.out.below HB1.out) (by omega))
      rw [HLA.out] at HEN HZN
      simp only at HEN HZN
      rw [← HM.out] at HZN
      rw [HRW.out] at HRA
      simp only [errR] at HRA
      clear HLA HRW HM HEK HFL HE0 HST HPRE HFO HGD HTAKE
      rcases hend3 with ⟨q1, q2⟩ | ⟨q1, hjl, q3⟩
      · go_upto_region 21 with fail
        go_upto_region 25 with (first
          | (go_at_call 40; refine HOP.out.mono ?_; rintro e w9 ⟨X, S9, T9, rfl, hh9, -, -⟩; have H9 := hide hh9; clear hh9 HOP)
          | (go_at_call 23; refine (HEN.out X T9 w9 H9.out.seg H9.out.ok).mono ?_; rintro e w10 ⟨rfl, hb10⟩; have HB10 := hide hb10; clear hb10)
          | (have _t := HB10; go_at_call 24; refine (HZN.out X T9 w10 (H9.out.seg.below HB10.out) H9.out.ok).mono ?_; rintro e w11 ⟨rfl, hb11⟩; have H11 := hide (H9.out.grow (HB10.out.trans (hb11.mono HB10.out.size))); clear hb11)
          | (have _t := H11; go_at_call 20; refine (HRA.out X S9 T9 w11 H11.out).mono ?_; rintro e w12 ⟨v, rfl, ho, hb12⟩; obtain ⟨Ar, cr, rfl, hR⟩ := own_n ho HLEN.out; have HR := hide hR; have H12 := hide (H11.out.grow hb12); clear ho hR hb12)
          | fail)
        have HW12 := hide (HB1.out.trans (H12.out.below.mono HB1.out.size))
        go_wp2_with (first
          | (go_at_call 21; refine (sameBytes_any Ar A cr cap M M (raw.take M) (raw.take M) w12 HLEN.out HLEN.out (by omega) (by omega) HR.out.reads ((HA.out.below HW12.out (Nat.le_refl _)).reads.first M)).mono ?_; rintro e w13 ⟨he, q, hq⟩; rw [decide_eq_true (rfl : raw.take M = raw.take M)] at he; subst he; subst hq)
          | fail)
        go_ret
        exact ⟨rfl, below_drewN HW12.out q⟩
      · obtain ⟨bj, oj, rfl, hbj, Aj, cj, y0, y1, -⟩ := (HBT.out.below HBR.out (Nat.le_refl _)).at_ j hjl
        have q2 : decide (j < m) = true := decide_eq_true (by have := of_decide_eq_true q1; omega)
        have hjm : j < m := of_decide_eq_true q2
        generalize xs[j].base = xb at *
        generalize xs[j].epoch = xe at *
        rcases q3 with q3 | ⟨q3, q4⟩
        · have deq : (xb == of) = false := by simp [q3]
          go_upto_region 21 with fail
          go_upto_region 25 with (first
            | (go_at_call 40; refine HOP.out.mono ?_; rintro e w9 ⟨X, S9, T9, rfl, hh9, -, -⟩; have H9 := hide hh9; clear hh9 HOP)
            | (go_at_call 23; refine (HEN.out X T9 w9 H9.out.seg H9.out.ok).mono ?_; rintro e w10 ⟨rfl, hb10⟩; have HB10 := hide hb10; clear hb10)
            | (have _t := HB10; go_at_call 24; refine (HZN.out X T9 w10 (H9.out.seg.below HB10.out) H9.out.ok).mono ?_; rintro e w11 ⟨rfl, hb11⟩; have H11 := hide (H9.out.grow (HB10.out.trans (hb11.mono HB10.out.size))); clear hb11)
            | (have _t := H11; go_at_call 20; refine (HRA.out X S9 T9 w11 H11.out).mono ?_; rintro e w12 ⟨v, rfl, ho, hb12⟩; obtain ⟨Ar, cr, rfl, hR⟩ := own_n ho HLEN.out; have HR := hide hR; have H12 := hide (H11.out.grow hb12); clear ho hR hb12)
            | fail)
          have HW12 := hide (HB1.out.trans (H12.out.below.mono HB1.out.size))
          go_wp2_with (first
            | (go_at_call 21; refine (sameBytes_any Ar A cr cap M M (raw.take M) (raw.take M) w12 HLEN.out HLEN.out (by omega) (by omega) HR.out.reads ((HA.out.below HW12.out (Nat.le_refl _)).reads.first M)).mono ?_; rintro e w13 ⟨he, q, hq⟩; rw [decide_eq_true (rfl : raw.take M = raw.take M)] at he; subst he; subst hq)
            | fail)
          go_ret
          exact ⟨rfl, below_drewN HW12.out q⟩
        · subst q3
          have dge : decide (ep ≤ xe) = false := decide_eq_false (by omega)
          go_upto_region 21 with fail
          go_upto_region 25 with (first
            | (go_at_call 40; refine HOP.out.mono ?_; rintro e w9 ⟨X, S9, T9, rfl, hh9, -, -⟩; have H9 := hide hh9; clear hh9 HOP)
            | (go_at_call 23; refine (HEN.out X T9 w9 H9.out.seg H9.out.ok).mono ?_; rintro e w10 ⟨rfl, hb10⟩; have HB10 := hide hb10; clear hb10)
            | (have _t := HB10; go_at_call 24; refine (HZN.out X T9 w10 (H9.out.seg.below HB10.out) H9.out.ok).mono ?_; rintro e w11 ⟨rfl, hb11⟩; have H11 := hide (H9.out.grow (HB10.out.trans (hb11.mono HB10.out.size))); clear hb11)
            | (have _t := H11; go_at_call 20; refine (HRA.out X S9 T9 w11 H11.out).mono ?_; rintro e w12 ⟨v, rfl, ho, hb12⟩; obtain ⟨Ar, cr, rfl, hR⟩ := own_n ho HLEN.out; have HR := hide hR; have H12 := hide (H11.out.grow hb12); clear ho hR hb12)
            | fail)
          have HW12 := hide (HB1.out.trans (H12.out.below.mono HB1.out.size))
          go_wp2_with (first
            | (go_at_call 21; refine (sameBytes_any Ar A cr cap M M (raw.take M) (raw.take M) w12 HLEN.out HLEN.out (by omega) (by omega) HR.out.reads ((HA.out.below HW12.out (Nat.le_refl _)).reads.first M)).mono ?_; rintro e w13 ⟨he, q, hq⟩; rw [decide_eq_true (rfl : raw.take M = raw.take M)] at he; subst he; subst hq)
            | fail)
          go_ret
          exact ⟨rfl, below_drewN HW12.out q⟩
end Go.Proofs.YtfdppggdgdnnaaaGreatDoor
