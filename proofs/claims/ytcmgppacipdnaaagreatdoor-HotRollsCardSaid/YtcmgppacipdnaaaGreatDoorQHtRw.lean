/-
  Row of up to forty sizes, of any base and of any step of epochs, with the row's own blocks.
  What a read of batches is to tell: the statements' own want.
  The edges of a segment made of batches: their offsets and places rise.
  What a Read of a segment gives is what the statements' own want says, plainly.
-/
import Derived.Test.YtcmgppacipdnaaaGreatDoorQRMake
import Derived.Test.YtcmgppacipdnaaaGreatDoorQSgN
import Derived.Test.YtcmgppacipdnaaaGreatDoorQRfV
import Derived.Test.YtcmgppacipdnaaaGreatDoorQSgO
import Derived.Test.YtcmgppacipdnaaaGreatDoorQHtS
namespace Go.Proofs.YtcmgppacipdnaaaGreatDoor
open Go.RowKit
set_option maxRecDepth 100000 in
set_option maxHeartbeats 4000000 in
theorem rowW_any (base : Nat) (A : Option Addr) (cap n ev : Nat) (zs : List Int) (w : World) (hn : zs.length = n) (hn2 : n ≤ 40) (hb : base ≤ 1073741824) (hev : 0 < ev) (hev2 : ev ≤ 100) (hA : Ints w A zs) (hz : ∀ k, k < zs.length → -9223372036854775808 ≤ zs.getD k 0 ∧ zs.getD k 0 ≤ 9223372036854775807) :
    Calls Tryz.prog 15 #[.int .i64 base, .slice A n cap, .int .i64 ev] w fun e w' => (∃ A c, e = .returned (.slice A n c) ∧ n ≤ c ∧ c ≤ 9223372036854775807 ∧ Bats w' A (Rw.go base 0 ev zs) ∧ ∃ qs, BRow w' w.heap.size (.slice A n c) qs ∧ qs.map (·.b) = Rw.go base 0 ev zs) ∧ Below w.heap.size w w' := by
  subst hn
  have HA := hide hA
  have HZ := hide hz
  clear hA hz
  go_enter Tryz.func15, Tryz.ntmps15
  go_wp2_with fail
  go_loopw [7, 8, 9] (fun v at_ i wr => ∃ (k : Nat) (a : Nat) (qs : List PBat), k ≤ zs.length ∧ i = .int .i64 k ∧ at_ = .int .i64 a ∧ a ≤ base + 5 * k ∧ BRow wr w.heap.size v qs ∧ qs.length = k ∧ Below w.heap.size w wr ∧ qs.map (·.b) ++ Rw.go a k ev (zs.drop k) = Rw.go base 0 ev zs) (fun _ _ i _ => zs.length - (intOf i).toNat)
  case atStart => exact ⟨0, base, [], Nat.zero_le _, rfl, rfl, by omega, BRow.nil _ _, rfl, Below.refl _ _, by simp⟩
  case round =>
    obtain ⟨k, a, qs, hk, rfl, rfl, ha, hrow, hql, hb, hgo⟩ := hrel
    have HRW := hide hrow
    have HBK := hide hb
    have HGO := hide hgo
    have HQL := hide hql
    clear hrow hb hgo hql
    obtain ⟨Av, cv, rfl, -, -, -⟩ := HRW.out.val
    by_cases hlt : k < zs.length
    · rcases HA.out with e0 | ⟨b, off, rfl, hb0, hcl⟩
      · rw [e0] at hlt; simp at hlt
      have hcell : wr.cell? ⟨b, off + k, none⟩ = some (.int .i64 (zs.getD k 0)) := (HBK.out.cell (p := ⟨b, off + k, none⟩) hb0).trans (hcl k hlt)
      obtain ⟨bd1, bd2⟩ := HZ.out k hlt
      have HDR : Hid (zs.drop k = zs.getD k 0 :: zs.drop (k + 1)) := by
        show _ = _
        rw [List.drop_eq_getElem_cons hlt]; simp [List.getD, hlt]
      have HCEL := hide (hcl k hlt)
      have HB0L := hide hb0
      clear hcl
      generalize zs.getD k 0 = z at *
      have hbl : b < wr.heap.size := Nat.lt_of_lt_of_le hb0 HBK.out.size
      go_upto_region 7 with fail
      have hbld := Bld.new (Below.refl wr.heap.size wr) (a : Int) 1 36
      have HBD := hide hbld
      obtain ⟨BB, hBB⟩ : ∃ BB, BB = wr.heap.size := ⟨_, rfl⟩
      rw [← hBB] at HBD ⊢
      have HBB := hide hBB
      have y0 := HBD.out.c1
      have y1 := HBD.out.f 1
      have HW4 : Hid (Below wr.heap.size wr (wr.alloc (.cells #[.int .i64 (a : Int), .int .i64 1, .slice none 0 0] 36))) := hide (balloc (Below.refl _ _) _)
      clear hbld hBB
      generalize wr.alloc (.cells #[.int .i64 (a : Int), .int .i64 1, .slice none 0 0] 36) = w4 at *
      have hdk : k / ev ≤ k := Nat.div_le_self _ _
      have hdv : (k : Int).tdiv (ev : Int) = ((k / ev : Nat) : Int) := by rw [Int.tdiv_eq_ediv_of_nonneg (by omega)]; rfl
      have HDK := hide hdk
      go_upto_region 9 with fail
      have hep : wrap64 (1 + wrap64 ((k : Int) / (ev : Int))) = 1 + ((k / ev : Nat) : Int) := by
        rw [show (k : Int) / (ev : Int) = ((k / ev : Nat) : Int) from rfl]
        generalize k / ev = q at *
        have hq : -9223372036854775808 ≤ (q : Int) ∧ (q : Int) ≤ 9223372036854775807 := by omega
        rw [IntWalk.wrap64_in (q : Int) hq, IntWalk.wrap64_in (1 + (q : Int)) (by omega)]
      rw [hep]
      have HB5 := hide (HBD.out.num1 (1 + ((k / ev : Nat) : Int)))
      have HW5 := hide (HW4.out.trans ((Below.refl _ _).setCell (p := ⟨BB, 1, none⟩) (by show _ ≤ BB; rw [HBB.out]; exact Nat.le_refl _) (.int .i64 (1 + ((k / ev : Nat) : Int)))))
      clear hep hdv hdk y0 y1 HBD HW4
      generalize hepo : 1 + ((k / ev : Nat) : Int) = ep at *
      have HEP := hide hepo
      clear hepo
      generalize w4.setCell ⟨BB, 1, none⟩ (.int .i64 ep) = w5 at *
      have hc5 := (HW5.out.cell (p := ⟨b, off + k, none⟩) hbl).trans hcell
      have HNM := hide (fun W => num_at z 5 5 W rfl (by omega) (by omega) bd1 bd2)
      have hm5 := num_lt z 5 (by omega)
      go_wp2_with fail
      refine (HNM.out _).mono ?_
      rintro e w6 ⟨rfl, rfl⟩
      have HMN : Hid (Rw.many z = num z 5 + 1) := hide rfl
      generalize num z 5 = nz at *
      clear HNM hcell
      go_upto_block 2 with fail
      go_cut [12] (fun _ wx => ∃ v ps, Bld wr wx BB (BB + 1) a ep v ps ∧ ps.map (·.r) = (List.range (nz + 1)).map (Rw.rc k z))
      case first =>
        go_wp2_with fail
        go_loopw [12] (fun i wi => ∃ (j : Nat) (v : Value) (ps : List PRec), j ≤ nz + 1 ∧ i = .int .i64 j ∧ Bld wr wi BB (BB + 1) a ep v ps ∧ ps.map (·.r) = (List.range j).map (Rw.rc k z)) (fun i _ => nz + 1 - (intOf i).toNat)
        case atStart => exact ⟨0, _, [], Nat.zero_le _, rfl, HB5.out, by simp⟩
        case round =>
          obtain ⟨j, v, ps, hj, rfl, hbld, hps⟩ := hrel
          have HBL := hide hbld
          have HPS := hide hps
          have hpl : ps.length = j := by
            have := congrArg List.length hps
            rwa [List.length_map, List.length_map, List.length_range] at this
          have HPL := hide hpl
          clear hps hpl
          by_cases hlj : j < nz + 1
          · have hci := (hbld.below.cell (p := ⟨b, off + k, none⟩) hbl).trans ((HBK.out.cell (p := ⟨b, off + k, none⟩) HB0L.out).trans HCEL.out)
            have HNV := hide (fun W => num_at (IntKind.i64.wrap (z + j)) 9 9 W rfl (by omega) (by omega) (by rw [IntKind.wrap_i64]; omega) (by rw [IntKind.wrap_i64]; omega))
            have hkv : num (IntKind.i64.wrap (z + j)) 9 = Rw.kv z j := rfl
            rw [hkv, IntWalk.i64_left] at HNV
            have hkl := Rw.kv_lt z j
            have HRC : Hid (Rw.rc k z j = ⟨100 * (k : Int) + j, [UInt8.ofNat (97 + Rw.kv z j)], List.replicate (Rw.kv z j) 0⟩) := hide rfl
            generalize Rw.kv z j = N at *
            obtain ⟨CS, hcs, hmk⟩ := make_bytes N (by omega)
            obtain ⟨Ab, cb, rfl, -, -, -⟩ := hbld.row.val
            have z0 := hbld.c2
            have z1 := hbld.f 2
            have hos := hbld.os
            clear hbld hkv
            go_wp2_with fail
            refine (HNV.out _).mono ?_
            rintro e w9 ⟨rfl, rfl⟩
            clear HNV
            go_upto_region 15 with fail
            obtain ⟨W3, hW3⟩ : ∃ W3, W3 = ((wr.alloc (.cells #[.int .u8 (97 + (N : Int))] 5)).alloc (.cells CS 5)).alloc (.cells #[.int .i64 (100 * (k : Int) + (j : Int)), .slice (some ⟨wr.heap.size, 0, none⟩) 1 1, .slice (some ⟨wr.heap.size + 1, 0, none⟩) N N] 80) := ⟨_, rfl⟩
            obtain ⟨hb3, hz3, ⟨x0, x1, x2⟩, ht1, ht2⟩ := row_new wr N hkl CS hcs (100 * (k : Int) + (j : Int)) (BB + 1) (.slice Ab ps.length cb) hos (fun q hq => (HBL.out.row.own.lt q hq).2) W3 hW3
            rw [← hW3]
            have HB3 := hide (HBL.out.quiet hb3)
            have z0 := HB3.out.c2
            have z1 := HB3.out.f 2
            have HT1 := hide ht1
            have HT2 := hide ht2
            have hos3 := HB3.out.os
            obtain ⟨i0, hi, hz, hs1, hby⟩ := info_parts record_info
            clear hW3 hb3 hz3 ht1 ht2 hcs hmk hos
            have HBAL : Hid (Below W3.heap.size W3 (W3.alloc (.cells #[.int .i64 (100 * (k : Int) + (j : Int)), .slice (some ⟨wr.heap.size, 0, none⟩) 1 1, .slice (some ⟨wr.heap.size + 1, 0, none⟩) N N] 80))) := hide (balloc (Below.refl _ _) _)
            have hlr : (List.replicate N (0 : UInt8)).length = N := List.length_replicate
            have HLR := hide hlr
            have HPC : Hid (PRec.cells ⟨⟨100 * (k : Int) + (j : Int), [UInt8.ofNat (97 + N)], List.replicate N 0⟩, some ⟨wr.heap.size, 0, none⟩, 1, some ⟨wr.heap.size + 1, 0, none⟩, N⟩ = [.int .i64 (100 * (k : Int) + (j : Int)), .slice (some ⟨wr.heap.size, 0, none⟩) 1 1, .slice (some ⟨wr.heap.size + 1, 0, none⟩) N N]) := by
              show _ = _
              unfold PRec.cells
              rw [HLR.out]; rfl
            clear hlr
            go_wp2_with (at_builtin; refine wpList_append_own_at (w := W3.alloc _) rfl (.tmp 61) (.tmp 63) 34 rfl (BB + 1) 80 i0 _ 3 56 Tryz.underlying34 hi hz hs1 hby rfl (by omega) (.slice Ab ps.length cb) ps.length (ps.flatMap PRec.cells) rfl (HB3.out.row.own.alloc _) ⟨W3.heap.size, 0, none⟩ 1 1 (PRec.cells ⟨⟨100 * (k : Int) + (j : Int), [UInt8.ofNat (97 + N)], List.replicate N 0⟩, some ⟨wr.heap.size, 0, none⟩, 1, some ⟨wr.heap.size + 1, 0, none⟩, N⟩) rfl rfl (by rw [HPC.out]; exact cells_three _ _ _ _ _) (PRec.cells_one _) (by have := HPL.out; simp only [maxLen]; omega) (by have := HPL.out; omega) (by simp; omega) ?_; intro v5 wd hown5 hg5 hnil5 hat5; obtain ⟨g5, c5, rfl⟩ := row_succ' hown5; have ymid := HB3.out.mid HBAL.out hg5; have y2 := ymid.1; have y3 := ymid.2; have HPUSH := hide (HB3.out.push (q := ⟨⟨100 * (k : Int) + (j : Int), [UInt8.ofNat (97 + N)], List.replicate N 0⟩, some ⟨wr.heap.size, 0, none⟩, 1, some ⟨wr.heap.size + 1, 0, none⟩, N⟩) HT1.out HT2.out HBAL.out hg5 hat5 hown5); clear hown5 hg5 hnil5 hat5 ymid)
            refine ⟨⟨j + 1, _, _, by omega, by go_num, HPUSH.out, ?_⟩, by simp [intOf]; omega⟩
            rw [List.map_append, HPS.out, List.range_succ, List.map_append, List.map_singleton, List.map_singleton, HRC.out]
          · obtain rfl : j = nz + 1 := by omega
            go_wp2_with fail
            go_meet
            exact ⟨_, ps, HBL.out, HPS.out⟩
      case rest =>
        obtain ⟨v, ps, hbld, hps⟩ := hcut
        have HBL := hide hbld
        have HPS := hide hps
        obtain ⟨Ab, cb, rfl, hpc, hpm, -⟩ := hbld.row.val
        have c0 := hbld.c0
        have c1 := hbld.c1
        have c2 := hbld.c2
        have hbw := hbld.below
        have HBW := hide hbw
        have HR6 := hide (HRW.out.below hbw)
        have hd6 : k / ev ≤ k := Nat.div_le_self _ _
        have hep1 : 0 ≤ ep ∧ ep ≤ 1000 := by
          rw [← HEP.out]
          generalize k / ev = q at *
          omega
        have HNEW := hide (hbld.row.newBat (a : Int) ep (by omega) (by omega))
        have hpl : (ps.map (·.r)).length = ps.length := List.length_map _
        have HPL := hide hpl
        have HBAL : Hid (Below wc.heap.size wc (wc.alloc (.cells #[.int .i64 (a : Int), .int .i64 ep, .slice Ab ps.length cb] 36))) := hide (balloc (Below.refl _ _) _)
        have HZW : Hid (w.heap.size ≤ wc.heap.size) := hide (Nat.le_trans HBK.out.size hbw.size)
        have HPC : Hid (PBat.cells ⟨⟨(a : Int), ep, ps.map (·.r)⟩, Ab, cb⟩ = [.int .i64 (a : Int), .int .i64 ep, .slice Ab ps.length cb]) := by
          show _ = _
          unfold PBat.cells
          rw [HPL.out]
        obtain ⟨i0, hi, hz, hs1, hby⟩ := info_parts batch_info
        clear hbld hps hbw hpl hd6
        go_wp2_with (at_builtin; refine wpList_append_own_at (w := wc.alloc _) rfl (.tmp 69) (.tmp 71) 26 rfl w.heap.size 36 i0 _ 3 40 Tryz.underlying26 hi hz hs1 hby rfl (by omega) (.slice Av qs.length cv) qs.length (qs.flatMap PBat.cells) rfl (HR6.out.own.alloc _) ⟨wc.heap.size, 0, none⟩ 1 1 (PBat.cells ⟨⟨(a : Int), ep, ps.map (·.r)⟩, Ab, cb⟩) rfl rfl (by rw [HPC.out]; exact cells_three _ _ _ _ _) (PBat.cells_one _) (by have := HQL.out; simp only [maxLen]; omega) (by have := HQL.out; omega) (by have := HZW.out; simp; omega) ?_; intro v5 wd hown5 hg5 hnil5 hat5; have HROW5 := hide (HR6.out.app (q := ⟨⟨(a : Int), ep, ps.map (·.r)⟩, Ab, cb⟩) (by have := HBK.out.size; have := HBB.out; omega) HNEW.out (Above.refl _ _) (fun q hq => by have := (HRW.out.own.lt q hq).2; have := HBB.out; omega) HBAL.out hg5 hat5 hown5); have HB5 := hide ((HBK.out.trans (HBW.out.mono HBK.out.size)).trans ((HBAL.out.mono HZW.out).trans ((Below.refl w.heap.size _).grown hg5 (by have := HZW.out; simp; omega) (fun q hq => (HRW.out.own.lt q hq).1)))); clear hown5 hg5 hnil5 hat5)
        refine ⟨⟨k + 1, a + (nz + 1), _, by omega, by go_num, by go_num, by omega, HROW5.out, by rw [List.length_append, HQL.out]; rfl, HB5.out, ?_⟩, by simp [intOf]; omega⟩
        rw [← HGO.out, HDR.out, List.map_append, List.append_assoc, Rw.go]
        have e1 : Rw.bt (a : Int) k ev z = ⟨(a : Int), ep, ps.map (·.r)⟩ := by
          unfold Rw.bt
          rw [HPS.out, HMN.out, ← HEP.out]
        have e2 : ((a : Int) + (Rw.many z : Int)) = ((a + (nz + 1) : Nat) : Int) := by
          rw [HMN.out]; omega
        rw [e1, e2]
        rfl
    · obtain rfl : k = zs.length := by omega
      obtain ⟨Ax, cx, hv, hc1, hc2, hbx⟩ := HRW.out.val
      injection hv with hv1 hv2 hv3
      subst hv1 hv3
      have HBX := hide hbx
      clear hbx
      have HEN : Hid (qs.map (·.b) = Rw.go base 0 ev zs) := by
        show _ = _
        rw [← HGO.out, List.drop_length]
        simp [Rw.go]
      go_wp2_with fail
      go_ret
      refine ⟨⟨Av, cv, by rw [HQL.out]; rfl, by rw [← HQL.out]; exact hc1, hc2, by rw [← HEN.out]; exact HBX.out, qs, by rw [← HQL.out]; exact HRW.out, HEN.out⟩, HBK.out⟩
end Go.Proofs.YtcmgppacipdnaaaGreatDoor

namespace Go.Proofs.YtcmgppacipdnaaaGreatDoor
open Go.RowKit Go.Maps

/-- The cells of a row that is not empty. -/
theorem BRow.at_ {w : World} {lo : Nat} {A : Option Addr} {n c : Nat} {qs : List PBat} (h : BRow w lo (.slice A n c) qs) (hne : 0 < qs.length) :
    ∃ g, A = some ⟨g, 0, none⟩ ∧ n = qs.length ∧ g < w.heap.size ∧ ∀ k (hk : k < qs.length), w.cell? ⟨g, k * 3, none⟩ = some (.int .i64 qs[k].b.base) ∧ w.cell? ⟨g, k * 3 + 1, none⟩ = some (.int .i64 qs[k].b.epoch) ∧ w.cell? ⟨g, k * 3 + 2, none⟩ = some (.slice qs[k].A qs[k].b.recs.length qs[k].c) := by
  rcases h.own.2 with ⟨e, h0⟩ | ⟨g, cap, cur, e, hg, hh, hn, hm, hs, ht⟩
  · omega
  · injection e with e1 e2 e3
    refine ⟨g, e1, e2, ?_, fun k hk => ?_⟩
    · rcases Nat.lt_or_ge g w.heap.size with h | h
      · exact h
      · rw [Array.getElem?_eq_none h] at hh; cases hh
    · have hcells : ∀ j u, j < 3 → (qs[k].cells)[j]? = some u → w.cell? ⟨g, k * 3 + j, none⟩ = some u := by
        intro j u hj hu
        have h1 : (qs.flatMap PBat.cells)[k * 3 + j]? = some u := by
          have e1 : qs.flatMap PBat.cells = (qs.take k).flatMap PBat.cells ++ (qs[k].cells ++ (qs.drop (k + 1)).flatMap PBat.cells) := by
            conv => lhs; rw [← List.take_append_drop k qs, List.drop_eq_getElem_cons hk]
            rw [List.flatMap_append, List.flatMap_cons]
          have e2 : ((qs.take k).flatMap PBat.cells).length = k * 3 := by rw [bcells_len, List.length_take]; congr 1; omega
          rw [e1, List.getElem?_append_right (by rw [e2]; omega), e2, Nat.add_sub_cancel_left, List.getElem?_append_left (by rw [PBat.cells_len]; exact hj)]
          exact hu
        have h2 := h.own.cells (g := g) (by rw [e1]; rfl) _ _ h1
        rw [show (⟨g, 0, none⟩ : Addr).add (k * 3 + j) = ⟨g, k * 3 + j, none⟩ from by rw [Addr.add_lit]; congr 1; omega] at h2
        exact h2
      exact ⟨hcells 0 _ (by omega) rfl, hcells 1 _ (by omega) rfl, hcells 2 _ (by omega) rfl⟩

end Go.Proofs.YtcmgppacipdnaaaGreatDoor

namespace Go.Proofs.YtcmgppacipdnaaaGreatDoor
open Go.RowKit Go.Maps Go.Sort

namespace Sg
theorem off_strict (s : St) (h1 : s.edges.length = 1) (bs : List Rc.Bat) (hc : Chain s bs) (hg : ∀ b ∈ bs, Rc.Good b) (a b : Nat) (hab : a < b) (hb : b ≤ bs.length) : (ed (adds s bs).edges a).off < (ed (adds s bs).edges b).off := by
  have e1 := ed_base s h1 bs hc a (by omega)
  have e2 := ed_next s h1 bs a (by omega)
  have g := (hg _ (List.getElem_mem (show a < bs.length by omega))).n0
  have h3 := off_mono s h1 bs hc (a + 1) b (by omega) (by rw [adds_len]; omega)
  omega
theorem pos_strict (s : St) (h1 : s.edges.length = 1) (h0 : (last s.edges).pos = 0) (bs : List Rc.Bat) (a b : Nat) (hab : a < b) (hb : b ≤ bs.length) : (ed (adds s bs).edges a).pos < (ed (adds s bs).edges b).pos := by
  have h3 := pos_mono s h1 h0 bs (a + 1) b (by omega) (by rw [adds_len]; omega)
  have e1 := ed_pos s h1 h0 bs a (by omega)
  have e2 := ed_pos s h1 h0 bs (a + 1) (by omega)
  rw [List.take_succ_eq_append_getElem (show a < bs.length by omega), List.flatMap_append, List.length_append] at e2
  have h4 : (List.flatMap Rc.bytes [bs[a]]).length = (Rc.bytes bs[a]).length := by simp
  have h5 := Rc.bytes_len bs[a]
  omega
theorem St.same {a b : St} (h1 : a.file = b.file) (h2 : a.every = b.every) (h3 : a.edges = b.edges) (h4 : a.synced = b.synced) : a = b := by
  cases a; cases b; simp only at h1 h2 h3 h4; subst h1 h2 h3 h4; rfl
end Sg
section
variable {d d' : Dk.St} {s : Sg.St} {room used base every : Int} {names : Dk.Dir} {x : Nat} {bs : List Rc.Bat}
theorem Mz.offs (h : Mz d s room used names base every x bs) (a b : Nat) (hab : a < b) (hb : b ≤ bs.length) : (Sg.ed s.edges a).off < (Sg.ed s.edges b).off := by
  rw [h.edges]; exact Sg.off_strict _ rfl bs h.chain h.good a b hab hb
theorem Mz.poss (h : Mz d s room used names base every x bs) (a b : Nat) (hab : a < b) (hb : b ≤ bs.length) : (Sg.ed s.edges a).pos < (Sg.ed s.edges b).pos := by
  rw [h.edges]; exact Sg.pos_strict _ rfl rfl bs a b hab hb
end
end Go.Proofs.YtcmgppacipdnaaaGreatDoor

namespace Go.Proofs.YtcmgppacipdnaaaGreatDoor
open Go.RowKit

namespace Rw
theorem goB_ok (zs : List Int) : ∀ (at_ : Int) (i ev : Nat), 0 ≤ at_ → at_ + 5 * zs.length ≤ 1099511627776 → i + zs.length ≤ 100 → ∀ b ∈ go at_ i ev zs, Rc.Good b ∧ b.recs.length ≤ 5 ∧ ∀ r ∈ b.recs, r.k.length ≤ 64 ∧ r.v.length ≤ 512 := by
  induction zs with
  | nil => intro at_ i ev _ _ _ b hb; simp [go] at hb
  | cons z zs ih =>
    intro at_ i ev h0 h1 h2 b hb
    have hm := many_bd z
    rw [List.length_cons] at h1 h2
    rcases List.mem_cons.1 hb with rfl | hb
    · have hl : (bt at_ i ev z).recs.length = many z := by simp [bt]
      have hr : ∀ r ∈ (bt at_ i ev z).recs, -1099511627776 ≤ r.t ∧ r.t ≤ 1099511627776 ∧ r.k.length ≤ 64 ∧ r.v.length ≤ 512 := by
        intro r hr
        obtain ⟨k, hk, rfl⟩ := List.mem_map.1 hr
        have hk' := List.mem_range.1 hk
        have := kv_lt z k
        refine ⟨?_, ?_, by simp [rc], by simp [rc]; omega⟩
        · show -1099511627776 ≤ 100 * (i : Int) + (k : Int); omega
        · show 100 * (i : Int) + (k : Int) ≤ 1099511627776; omega
      have hd : i / ev ≤ i := Nat.div_le_self _ _
      refine ⟨⟨by omega, by omega, h0, ?_, ?_, ?_, hr⟩, by omega, fun r h => ⟨(hr r h).2.2.1, (hr r h).2.2.2⟩⟩
      · rw [hl]; show at_ + (many z : Int) ≤ _; omega
      · show (0 : Int) ≤ 1 + ((i / ev : Nat) : Int)
        generalize i / ev = q at *
        omega
      · show 1 + ((i / ev : Nat) : Int) ≤ _
        generalize i / ev = q at *
        omega
    · exact ih (at_ + many z) (i + 1) ev (by omega) (by omega) (by omega) b hb
end Rw

end Go.Proofs.YtcmgppacipdnaaaGreatDoor
