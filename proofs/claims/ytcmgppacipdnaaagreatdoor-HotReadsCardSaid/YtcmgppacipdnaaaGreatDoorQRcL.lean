/-
  The walks through rec's text and lay.
-/
import Derived.Test.YtcmgppacipdnaaaGreatDoorQRcM
namespace Go.Proofs.YtcmgppacipdnaaaGreatDoor
open Go.RowKit

set_option maxRecDepth 100000 in
set_option maxHeartbeats 1000000 in
theorem text_any (base : Nat) (v : Value) (l : List UInt8) (A : Option Addr) (cap n : Nat) (s : List UInt8) (w : World) (hn : s.length = n) (hl : l.length ≤ 1000000) (hsl : n ≤ 1000) (ho : Own w base v l) (hbase : base ≤ w.heap.size) (hst : ∀ W, Below base w W → Arg W A cap s) :
    Calls Tryz.prog 172 #[v, .slice A n cap] w fun e w' => ∃ v', e = .returned v' ∧ Own w' base v' (l ++ Rc.eT s) ∧ Grown w w' v v' := by
  subst hn
  have HO := hide ho
  have HST := hide hst
  have HP := hide (put_nil s.length w (by omega))
  have hps : (Vi.put s.length).length = Vi.size s.length := rfl
  have hs10 := Vi.size_le10 (show s.length < 18446744073709551616 by omega)
  clear ho hst
  go_enter Tryz.func172, Tryz.ntmps172
  go_wp2_with fail
  refine HP.out.mono ?_
  rintro e w1 ⟨A1, c1, rfl, -, ha1, hb1⟩
  have HO1 := hide (HO.out.below hb1 (Nat.le_refl _))
  have HG1 := hide (Grown.of_below hb1 v)
  have HA1 := hide ha1.reads
  have hz1 := hb1.size
  have HE : Hid (l ++ Rc.eT s = (l ++ Vi.put s.length) ++ s) := by show _ = _; unfold Rc.eT; rw [List.append_assoc]
  clear ha1 hb1 HP
  generalize Vi.put s.length = pu at *
  generalize Vi.size s.length = sz at *
  go_upto_region 2 with (at_builtin; refine wpList_app (w := w1) rfl (.tmp 5) (.tmp 9) rfl base _ l pu rfl HO1.out A1 sz c1 rfl hps HA1.out (by omega) (by omega) ?_; intro v2 w2 hown2 hg2 hv2)
  have HO2 := hide hown2
  have HG2 := hide (HG1.out.trans (Grown.app hg2 hv2))
  have hz2 := hg2.size
  have hl2 : (l ++ pu).length ≤ 1000010 := by rw [List.length_append]; omega
  have HA2 := hide ((HST.out _ (HG2.out.below HO.out (Nat.le_refl _) hbase)).reads)
  clear hown2 hg2 hv2 HST
  go_wp2_with (at_builtin; refine wpList_app (w := w2) rfl (.tmp 11) (.tmp 12) rfl base _ (l ++ pu) s rfl HO2.out A s.length cap rfl rfl HA2.out (by omega) (by omega) ?_; intro v3 w3 hown3 hg3 hv3)
  go_ret
  refine ⟨_, rfl, ?_, HG2.out.trans (Grown.app hg3 hv3)⟩
  rw [HE.out]; exact hown3

/-- A block of three cells, just made. -/
theorem made3 (w : World) (v0 v1 v2 : Value) (t : TypeId) : (w.alloc (.cells #[v0, v1, v2] t)).cell? ⟨w.heap.size, 0, none⟩ = some v0 ∧ (w.alloc (.cells #[v0, v1, v2] t)).cell? ⟨w.heap.size, 1, none⟩ = some v1 ∧ (w.alloc (.cells #[v0, v1, v2] t)).cell? ⟨w.heap.size, 2, none⟩ = some v2 :=
  ⟨by rw [World.cell?_alloc_mark]; rfl, by rw [World.cell?_alloc_mark]; rfl, by rw [World.cell?_alloc_mark]; rfl⟩

set_option maxRecDepth 100000 in
set_option maxHeartbeats 2000000 in
theorem lay_any (b : Rc.Bat) (A : Option Addr) (cap n : Nat) (w : World) (h : IsBat w A cap b) (hg : Rc.Good b) (hn : b.recs.length = n) :
    Calls Tryz.prog 138 #[batV b.base b.epoch A n cap] w fun e w' => ∃ v, e = .returned v ∧ Own w' w.heap.size v (Rc.body b) ∧ Below w.heap.size w w' := by
  subst hn
  obtain ⟨ba, hba⟩ := Int.eq_ofNat_of_zero_le hg.base0
  obtain ⟨ep, hep⟩ := Int.eq_ofNat_of_zero_le hg.ep0
  have hba1 := hg.base1
  have hep1 := hg.ep1
  have hn1 := hg.n1
  have hn0 := hg.n0
  rw [hba, hep]
  rw [hba] at hba1
  rw [hep] at hep1
  have HBODY : Hid (Rc.body b = (((Rc.le 8 ba ++ Rc.le 4 ep) ++ Rc.le 2 b.recs.length) ++ Vi.put (Vi.zz (Rc.t0 b))) ++ Rc.recsB (Rc.t0 b) b.recs) := by
    show _ = _
    unfold Rc.body Rc.hd
    rw [hba, hep]; rfl
  have hbl := Rc.body_len b hg
  have HBL := hide hbl
  have HG := hide hg
  have hrec := h.recs
  obtain ⟨W0, hW0⟩ : ∃ W0, W0 = w.alloc (.cells #[.int .i64 ba, .int .i64 ep, .slice A b.recs.length cap] 36) := ⟨_, rfl⟩
  have hb0 : Below w.heap.size w W0 := hW0 ▸ balloc (Below.refl _ _) _
  have hz0 : W0.heap.size = w.heap.size + 1 := by rw [hW0]; simp
  obtain ⟨m0, m1, m2⟩ := made3 w (.int .i64 ba) (.int .i64 ep) (.slice A b.recs.length cap) 36
  rw [← hW0] at m0 m1 m2
  have HR := hide (hrec.below hb0 (Nat.le_refl _))
  have HB0 := hide hb0
  have HF1 := hide (fix_any (w.heap.size + 1) (.slice none 0 0) [] ba 8 W0 (by omega) (by omega) (by simp) (Own.nil _ _) (by omega))
  clear h hg hbl hb0 hrec hba hep
  go_enter Tryz.func138, Tryz.ntmps138
  go_upto_region 1 with fail
  rw [← hW0]
  clear hW0
  go_wp2_with fail
  refine HF1.out.mono ?_
  rintro e w1 ⟨v1, rfl, ho1, hg1⟩
  have HO1 := hide ho1
  have hb1 := hg1.below (Own.nil W0 (w.heap.size + 1)) (Nat.le_refl _) (by omega)
  have HB1 := hide hb1
  have d1 := (hb1.cell (p := ⟨w.heap.size, 1, none⟩) (by show w.heap.size < _; omega)).trans m1
  have hz1 := hb1.size
  have HF2 := hide (fix_any (w.heap.size + 1) v1 (Rc.le 8 ba) ep 4 w1 (by omega) (by omega) (by rw [Rc.le_len]; omega) (by simpa using ho1) (by omega))
  clear ho1 hg1 hb1 HF1 m0
  go_wp2_with fail
  refine HF2.out.mono ?_
  rintro e w2 ⟨v2, rfl, ho2, hg2⟩
  have hb2 := HB1.out.trans (hg2.below HO1.out (Nat.le_refl _) (by omega))
  have HB2 := hide hb2
  have HO2 := hide ho2
  have d2 := (hb2.cell (p := ⟨w.heap.size, 2, none⟩) (by show w.heap.size < _; omega)).trans m2
  have hz2 := hb2.size
  have HF3 := hide (fix_any (w.heap.size + 1) v2 (Rc.le 8 ba ++ Rc.le 4 ep) b.recs.length 2 w2 (by omega) (by omega) (by rw [List.length_append, Rc.le_len, Rc.le_len]; omega) ho2 (by omega))
  clear ho2 hg2 hb2 HF2 d1 m1 HO1
  go_wp2_with fail
  refine HF3.out.mono ?_
  rintro e w3 ⟨v3, rfl, ho3, hg3⟩
  have hb3 := HB2.out.trans (hg3.below HO2.out (Nat.le_refl _) (by omega))
  have HB3 := hide hb3
  have HO3 := hide ho3
  have d3 := (hb3.cell (p := ⟨w.heap.size, 2, none⟩) (by show w.heap.size < _; omega)).trans m2
  have hz3 := hb3.size
  have hr3 := HR.out.below hb3 (Nat.le_of_eq hz0)
  have hd3 : ((Rc.le 8 ba ++ Rc.le 4 ep) ++ Rc.le 2 b.recs.length).length = 14 := by simp [Rc.le_len]
  clear ho3 hg3 hb3 HF3 d2 HO2 HB2 HB1
  generalize (Rc.le 8 ba ++ Rc.le 4 ep) ++ Rc.le 2 b.recs.length = hd at *
  rcases hr3 with h0 | ⟨bb, off, rfl, hb0, hcl⟩
  · rw [h0] at hn0; simp at hn0
  obtain ⟨Ak, ck, Av, cv, c0, -⟩ := (hcl 0 hn0).ex
  rw [Nat.zero_mul, Nat.add_zero] at c0
  change w3.cell? ⟨bb, off, none⟩ = some (.int .i64 (Rc.t0 b)) at c0
  obtain ⟨ht1, ht2⟩ := HG.out.t0
  have hzp : (Vi.put (Vi.zz (Rc.t0 b))).length = Vi.size (Vi.zz (Rc.t0 b)) := rfl
  have hz10 := Vi.size_le10 (Vi.zz_lt (Rc.t0 b) (by omega) (by omega))
  have HP3 := hide (putInt_nil (Rc.t0 b) w3 (by omega) (by omega))
  clear hcl
  go_wp2_with fail
  refine HP3.out.mono ?_
  rintro e w4 ⟨A4, c4, rfl, -, ha4, hb4⟩
  have HO4 := hide (HO3.out.below hb4 (Nat.le_refl _))
  have HB4 := hide (HB3.out.trans (hb4.mono (by omega)))
  have HA4 := hide ha4.reads
  have hz4 := hb4.size
  clear ha4 hb4 HP3 c0 d3 HB3 HO3
  generalize hzb : Vi.put (Vi.zz (Rc.t0 b)) = pz at *
  have HZB := hide hzb
  clear hzb
  generalize Vi.size (Vi.zz (Rc.t0 b)) = sz at *
  go_upto_region 6 with (at_builtin; refine wpList_app (w := w4) rfl (.tmp 27) (.tmp 29) rfl (w.heap.size + 1) _ hd pz rfl HO4.out A4 sz c4 rfl hzp HA4.out (by omega) (by omega) ?_; intro v5 w5 hown5 hg5 hv5)
  have HO5 := hide hown5
  have hb5 := HB4.out.trans ((Grown.app hg5 hv5).below HO4.out (Nat.le_refl _) (by omega))
  have HB5 := hide hb5
  have d5 := (hb5.cell (p := ⟨w.heap.size, 2, none⟩) (by show w.heap.size < _; omega)).trans m2
  have hz5 := hb5.size
  have hl5 : (hd ++ pz).length ≤ 24 := by rw [List.length_append]; omega
  clear hown5 hg5 hv5 hb5 HO4 HB4 HA4
  generalize hd ++ pz = pre at *
  generalize ht0 : Rc.t0 b = T at *
  generalize hrs : b.recs = rs at *
  have HGR : Hid (∀ r ∈ rs, -1099511627776 ≤ r.t ∧ r.t ≤ 1099511627776 ∧ r.k.length ≤ 64 ∧ r.v.length ≤ 512) := hide (hrs ▸ HG.out.recs)
  clear hrs ht0 HG
  go_wp2_with fail
  go_loopw [3, 4, 34] (fun v t i wr => ∃ k : Nat, k ≤ rs.length ∧ i = .int .i64 k ∧ t = .int .i64 (Rc.lastT T (rs.take k)) ∧ Own wr (w.heap.size + 1) v (pre ++ Rc.recsB T (rs.take k)) ∧ (pre ++ Rc.recsB T (rs.take k)).length ≤ 24 + 606 * k ∧ Below (w.heap.size + 1) W0 wr) (fun _ _ i _ => rs.length - (intOf i).toNat)
  case atStart => exact ⟨0, Nat.zero_le _, rfl, rfl, by simpa [Rc.recsB] using HO5.out, by simpa [Rc.recsB] using hl5, HB5.out⟩
  case round =>
    obtain ⟨k, hk, rfl, rfl, ho, hll, hb⟩ := hrel
    have HOK := hide ho
    have HBK := hide hb
    have HZK : Hid (w.heap.size + 1 ≤ wr.heap.size) := hide (by have := hb.size; omega)
    clear ho hb
    by_cases hlt : k < rs.length
    · rcases HR.out with h0 | ⟨b', off', e', hb0', hcl⟩
      · rw [h0] at hlt; simp at hlt
      injection e' with e'
      injection e' with e1 e2
      subst e1 e2
      obtain ⟨Ak, ck, Av, cv, c0, c1, c2, ha, hv⟩ := (hcl k hlt).ex
      have hbl : bb < w.heap.size + 1 := by omega
      have d0 := (HBK.out.cell (p := ⟨bb, off + k * 3, none⟩) hbl).trans c0
      have d1 := (HBK.out.cell (p := ⟨bb, off + k * 3 + 1, none⟩) hbl).trans c1
      have d2 := (HBK.out.cell (p := ⟨bb, off + k * 3 + 2, none⟩) hbl).trans c2
      have hok := HGR.out (rs.getD k default) (by rw [show rs.getD k default = rs[k] from by simp [List.getD, hlt]]; exact List.getElem_mem hlt)
      have hlo := Rc.lastT_ok T (rs.take k) (fun r hr => HGR.out r (List.mem_of_mem_take hr)) ⟨ht1, ht2⟩
      have hrl := Rc.recB_len (Rc.lastT T (rs.take k)) (rs.getD k default) hok hlo
      have HT1 : Hid (rs.take (k + 1) = rs.take k ++ [rs.getD k default]) := by
        show _ = _
        rw [List.take_succ_eq_append_getElem hlt]; simp [List.getD, hlt]
      have HT2 : Hid (Rc.lastT T (rs.take (k + 1)) = (rs.getD k default).t) := by
        show _ = _
        rw [HT1.out, Rc.lastT_snoc]
      have HT3 : Hid (pre ++ Rc.recsB T (rs.take (k + 1)) = (pre ++ Rc.recsB T (rs.take k)) ++ Rc.recB (Rc.lastT T (rs.take k)) (rs.getD k default)) := by
        show _ = _
        rw [HT1.out, Rc.recsB_snoc, List.append_assoc]
      have HKA := hide (fun W (hw : Below (w.heap.size + 1) wr W) => ha.below (HBK.out.trans hw) (Nat.le_of_eq hz0))
      have HVA := hide (fun W (hw : Below (w.heap.size + 1) wr W) => hv.below (HBK.out.trans hw) (Nat.le_of_eq hz0))
      clear hcl c0 c1 c2 ha hv HT1
      generalize rs.getD k default = x at *
      generalize hpk : pre ++ Rc.recsB T (rs.take k) = pk at *
      generalize hlk : Rc.lastT T (rs.take k) = lk at *
      have HPK := hide hpk
      clear hpk hlk
      obtain ⟨t, ky, vl⟩ := x
      simp only at d0 d1 d2 hok HKA HVA
      go_upto_region 9 with fail
      obtain ⟨k0, k1, k2⟩ := made3 wr (.int .i64 t) (.slice Ak ky.length ck) (.slice Av vl.length cv) 80
      have hba : Below wr.heap.size wr (wr.alloc (.cells #[.int .i64 t, .slice Ak ky.length ck, .slice Av vl.length cv] 80)) := balloc (Below.refl _ _) _
      have hga : wr.heap.size < (wr.alloc (.cells #[.int .i64 t, .slice Ak ky.length ck, .slice Av vl.length cv] 80)).heap.size := by simp
      have HOA := hide (HOK.out.below hba (Nat.le_refl _))
      have HBA : Hid (Below (w.heap.size + 1) wr (wr.alloc (.cells #[.int .i64 t, .slice Ak ky.length ck, .slice Av vl.length cv] 80))) := hide (hba.mono HZK.out)
      have HNE := hide (show u3.ownBlock ≠ some wr.heap.size from fun e => by have := (HOK.out.lt _ e).2; omega)
      have HZA := hide HZK.out
      clear d0 d1 d2 hba HOK
      generalize wr.alloc (.cells #[.int .i64 t, .slice Ak ky.length ck, .slice Av vl.length cv] 80) = wa at *
      generalize wr.heap.size = ga at *
      have hsub : IntKind.i64.wrap (t - lk) = t - lk := by rw [IntKind.wrap_i64]; omega
      have HPI := hide (putInt_nil (t - lk) wa (by omega) (by omega))
      have hzz : (Vi.put (Vi.zz (t - lk))).length = Vi.size (Vi.zz (t - lk)) := rfl
      have hz10 := Vi.size_le10 (Vi.zz_lt (t - lk) (by omega) (by omega))
      have HRB : Hid (pk ++ Rc.recB lk ⟨t, ky, vl⟩ = ((pk ++ Vi.put (Vi.zz (t - lk))) ++ Rc.eT ky) ++ Rc.eT vl) := by
        show _ = _
        unfold Rc.recB
        simp only [List.append_assoc]
      have hek := Rc.eT_len ky (by omega)
      have hev := Rc.eT_len vl (by omega)
      have HRL := hide hrl
      clear hrl
      go_upto_region 10 with fail
      refine HPI.out.mono ?_
      rintro e wb ⟨A6, c6, rfl, -, ha6, hb6⟩
      have HOB := hide (HOA.out.below hb6 (Nat.le_refl _))
      have HGB := hide (Grown.of_below hb6 u3)
      have HA6 := hide ha6.reads
      have hzb := hb6.size
      clear ha6 hb6 HPI
      generalize Vi.put (Vi.zz (t - lk)) = pd at *
      generalize Vi.size (Vi.zz (t - lk)) = sd at *
      go_upto_region 10 with (at_builtin; refine wpList_app (w := wb) rfl (.tmp 38) (.tmp 43) rfl (w.heap.size + 1) _ pk pd rfl HOB.out A6 sd c6 rfl hzz HA6.out (by omega) (by have := HZA.out; omega) ?_; intro vc wc hownc hgc hvc)
      have HOC := hide hownc
      have hgc' := HGB.out.trans (Grown.app hgc hvc)
      have HGC := hide hgc'
      have f1 := (hgc'.cell (o := 1) hga HNE.out).trans k1
      have f2 := (hgc'.cell (o := 2) hga HNE.out).trans k2
      have f0 := (hgc'.cell (o := 0) hga HNE.out).trans k0
      have hzc := hgc'.size
      have hlc : (pk ++ pd).length ≤ 100000 := by rw [List.length_append]; omega
      have HBC := hide (HBA.out.trans (hgc'.below HOA.out (Nat.le_refl _) (by have := HZA.out; omega)))
      have HTK := hide (text_any (w.heap.size + 1) vc (pk ++ pd) Ak ck ky.length ky wc rfl (by omega) (by omega) hownc (by have := HZA.out; omega) (fun W hW => HKA.out W (HBC.out.trans hW)))
      have k0' := k0
      have k2' := k2
      have K0 := hide k0'
      have K2 := hide k2'
      clear hownc hgc hvc hgc' k0 k1 k2 k0' k2'
      go_upto_region 11 with fail
      refine HTK.out.mono ?_
      rintro e wd ⟨vd, rfl, hod, hgd⟩
      have hgd' := HGC.out.trans hgd
      have HGD := hide hgd'
      have HOD := hide hod
      have l1 := (hgd'.cell (o := 2) hga HNE.out).trans K2.out
      have l0 := (hgd'.cell (o := 0) hga HNE.out).trans K0.out
      have hzd := hgd'.size
      have hld : ((pk ++ pd) ++ Rc.eT ky).length ≤ 200000 := by rw [List.length_append]; omega
      have HBD := hide (HBA.out.trans (hgd'.below HOA.out (Nat.le_refl _) (by have := HZA.out; omega)))
      have HTV := hide (text_any (w.heap.size + 1) vd ((pk ++ pd) ++ Rc.eT ky) Av cv vl.length vl wd rfl (by omega) (by omega) hod (by have := HZA.out; omega) (fun W hW => HVA.out W (HBD.out.trans hW)))
      clear hod hgd hgd' HTK f0 f1 f2 HGC HOC HBC
      go_upto_region 11 with fail
      go_upto_region 12 with fail
      refine HTV.out.mono ?_
      rintro e we ⟨ve, rfl, hoe, hge⟩
      have hge' := HGD.out.trans hge
      have HOE := hide hoe
      have r0 := (hge'.cell (o := 0) hga HNE.out).trans K0.out
      have HBE := hide (HBK.out.trans (HBA.out.trans (hge'.below HOA.out (Nat.le_refl _) (by have := HZA.out; omega))))
      have hle : (pre ++ Rc.recsB T (rs.take (k + 1))).length ≤ 24 + 606 * (k + 1) := by
        rw [HT3.out, List.length_append]; have := HRL.out; omega
      have HLE := hide hle
      clear hoe hge hge' HTV l0 l1 HGD HOD HBD hle
      go_wp2_with fail
      refine ⟨⟨k + 1, by omega, by go_num, by rw [HT2.out], ?_, HLE.out, HBE.out⟩, by simp [intOf]; omega⟩
      rw [HT3.out, HRB.out]; exact HOE.out
    · obtain rfl : k = rs.length := by omega
      have HTT : Hid (rs.take rs.length = rs) := hide (List.take_length)
      go_wp2_with fail
      go_ret
      refine ⟨_, rfl, ?_, HB0.out.trans (HBK.out.mono (by omega))⟩
      rw [HBODY.out]
      have := HOK.out
      rw [HTT.out] at this
      exact this.mono (by omega)
end Go.Proofs.YtcmgppacipdnaaaGreatDoor
