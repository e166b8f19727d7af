/-
  Batches by numbers, all of one epoch: Row where epochs do not rise.
  Package seg: begin, Create.
  Package seg's statements: made; the chapter's examples.
  Package seg's statements: a Read of a segment made of batches; the chapter's examples.
-/
import Derived.Test.YtcmgppacipdnaaaGreatDoorQRMake
import Derived.Test.YtcmgppacipdnaaaGreatDoorQSgE
import Derived.Test.YtcmgppacipdnaaaGreatDoorQSgR
namespace Go.Proofs.YtcmgppacipdnaaaGreatDoor
open Go.RowKit

set_option maxRecDepth 100000 in
set_option maxHeartbeats 4000000 in
theorem rowZ_any (base : Nat) (A : Option Addr) (cap n : Nat) (zs : List Int) (w : World) (hn : zs.length = n) (hn2 : n ≤ 20) (hb : base ≤ 1073741824) (hA : Ints w A zs) (hz : ∀ k, k < zs.length → -9223372036854775808 ≤ zs.getD k 0 ∧ zs.getD k 0 ≤ 9223372036854775807) :
    Calls Tryz.prog 15 #[.int .i64 base, .slice A n cap, .int .i64 0] w fun e w' => (∃ A c, e = .returned (.slice A n c) ∧ n ≤ c ∧ c ≤ 9223372036854775807 ∧ Bats w' A (Rw.go base 0 0 zs) ∧ ∃ qs, BRow w' w.heap.size (.slice A n c) qs ∧ qs.map (·.b) = Rw.go base 0 0 zs) ∧ Below w.heap.size w w' := by
  subst hn
  have HA := hide hA
  have HZ := hide hz
  clear hA hz
  go_enter Tryz.func15, Tryz.ntmps15
  go_wp2_with fail
  go_loopw [7, 8, 9] (fun v at_ i wr => ∃ (k : Nat) (a : Nat) (qs : List PBat), k ≤ zs.length ∧ i = .int .i64 k ∧ at_ = .int .i64 a ∧ a ≤ base + 5 * k ∧ BRow wr w.heap.size v qs ∧ qs.length = k ∧ Below w.heap.size w wr ∧ qs.map (·.b) ++ Rw.go a k 0 (zs.drop k) = Rw.go base 0 0 zs) (fun _ _ i _ => zs.length - (intOf i).toNat)
  case atStart => exact ⟨0, base, [], Nat.zero_le _, rfl, rfl, by omega, BRow.nil _ _, rfl, Below.refl _ _, by simp⟩
  case round =>
    obtain ⟨k, a, qs, hk, rfl, rfl, ha, hrow, hql, hb, hgo⟩ := hrel
    have HRW := hide hrow
    have HBK := hide hb
    have HGO := hide hgo
    have HQL := hide hql
    clear hrow hb hgo hql
    obtain ⟨Av, cv, rfl, -, -, -⟩ := HRW.out.val
    by_cases hlt : k < zs.length
    · rcases HA.out with e0 | ⟨b, off, rfl, hb0, hcl⟩
      · rw [e0] at hlt; simp at hlt
      have hcell : wr.cell? ⟨b, off + k, none⟩ = some (.int .i64 (zs.getD k 0)) := (HBK.out.cell (p := ⟨b, off + k, none⟩) hb0).trans (hcl k hlt)
      obtain ⟨bd1, bd2⟩ := HZ.out k hlt
      have HDR : Hid (zs.drop k = zs.getD k 0 :: zs.drop (k + 1)) := by
        show _ = _
        rw [List.drop_eq_getElem_cons hlt]; simp [List.getD, hlt]
      have HCEL := hide (hcl k hlt)
      have HB0L := hide hb0
      clear hcl
      generalize zs.getD k 0 = z at *
      have hbl : b < wr.heap.size := Nat.lt_of_lt_of_le hb0 HBK.out.size
      go_upto_region 7 with fail
      have hbld := Bld.new (Below.refl wr.heap.size wr) (a : Int) 1 36
      have HBD := hide hbld
      obtain ⟨BB, hBB⟩ : ∃ BB, BB = wr.heap.size := ⟨_, rfl⟩
      rw [← hBB] at HBD ⊢
      have HBB := hide hBB
      have y0 := HBD.out.c1
      have y1 := HBD.out.f 1
      have HW4 : Hid (Below wr.heap.size wr (wr.alloc (.cells #[.int .i64 (a : Int), .int .i64 1, .slice none 0 0] 36))) := hide (balloc (Below.refl _ _) _)
      clear hbld hBB
      generalize wr.alloc (.cells #[.int .i64 (a : Int), .int .i64 1, .slice none 0 0] 36) = w4 at *
      obtain ⟨ep, hepo⟩ : ∃ ep : Int, 1 + ((k / 0 : Nat) : Int) = ep := ⟨_, rfl⟩
      have HEP := hide hepo
      have he1 : ep = 1 := by rw [← hepo]; simp
      have HE1 := hide he1
      have HB5 : Hid (Bld wr w4 BB (BB + 1) (a : Int) ep (.slice none 0 0) []) := hide (by rw [HE1.out]; exact HBD.out)
      have HW5 := hide HW4.out
      clear y0 y1 HBD HW4 hepo he1
      generalize w4 = w5 at *
      have hc5 := (HW5.out.cell (p := ⟨b, off + k, none⟩) hbl).trans hcell
      have HNM := hide (fun W => num_at z 5 5 W rfl (by omega) (by omega) bd1 bd2)
      have hm5 := num_lt z 5 (by omega)
      go_wp2_with fail
      refine (HNM.out _).mono ?_
      rintro e w6 ⟨rfl, rfl⟩
      have HMN : Hid (Rw.many z = num z 5 + 1) := hide rfl
      generalize num z 5 = nz at *
      clear HNM hcell
      go_upto_block 2 with fail
      go_cut [12] (fun _ wx => ∃ v ps, Bld wr wx BB (BB + 1) a ep v ps ∧ ps.map (·.r) = (List.range (nz + 1)).map (Rw.rc k z))
      case first =>
        go_wp2_with fail
        go_loopw [12] (fun i wi => ∃ (j : Nat) (v : Value) (ps : List PRec), j ≤ nz + 1 ∧ i = .int .i64 j ∧ Bld wr wi BB (BB + 1) a ep v ps ∧ ps.map (·.r) = (List.range j).map (Rw.rc k z)) (fun i _ => nz + 1 - (intOf i).toNat)
        case atStart => exact ⟨0, _, [], Nat.zero_le _, rfl, HB5.out, by simp⟩
        case round =>
          obtain ⟨j, v, ps, hj, rfl, hbld, hps⟩ := hrel
          have HBL := hide hbld
          have HPS := hide hps
          have hpl : ps.length = j := by
            have := congrArg List.length hps
            rwa [List.length_map, List.length_map, List.length_range] at this
          have HPL := hide hpl
          clear hps hpl
          by_cases hlj : j < nz + 1
          · have hci := (hbld.below.cell (p := ⟨b, off + k, none⟩) hbl).trans ((HBK.out.cell (p := ⟨b, off + k, none⟩) HB0L.out).trans HCEL.out)
            have HNV := hide (fun W => num_at (IntKind.i64.wrap (z + j)) 9 9 W rfl (by omega) (by omega) (by rw [IntKind.wrap_i64]; omega) (by rw [IntKind.wrap_i64]; omega))
            have hkv : num (IntKind.i64.wrap (z + j)) 9 = Rw.kv z j := rfl
            rw [hkv, IntWalk.i64_left] at HNV
            have hkl := Rw.kv_lt z j
            have HRC : Hid (Rw.rc k z j = ⟨100 * (k : Int) + j, [UInt8.ofNat (97 + Rw.kv z j)], List.replicate (Rw.kv z j) 0⟩) := hide rfl
            generalize Rw.kv z j = N at *
            obtain ⟨CS, hcs, hmk⟩ := make_bytes N (by omega)
            obtain ⟨Ab, cb, rfl, -, -, -⟩ := hbld.row.val
            have z0 := hbld.c2
            have z1 := hbld.f 2
            have hos := hbld.os
            clear hbld hkv
            go_wp2_with fail
            refine (HNV.out _).mono ?_
            rintro e w9 ⟨rfl, rfl⟩
            clear HNV
            go_upto_region 15 with fail
            obtain ⟨W3, hW3⟩ : ∃ W3, W3 = ((wr.alloc (.cells #[.int .u8 (97 + (N : Int))] 5)).alloc (.cells CS 5)).alloc (.cells #[.int .i64 (100 * (k : Int) + (j : Int)), .slice (some ⟨wr.heap.size, 0, none⟩) 1 1, .slice (some ⟨wr.heap.size + 1, 0, none⟩) N N] 80) := ⟨_, rfl⟩
            obtain ⟨hb3, hz3, ⟨x0, x1, x2⟩, ht1, ht2⟩ := row_new wr N hkl CS hcs (100 * (k : Int) + (j : Int)) (BB + 1) (.slice Ab ps.length cb) hos (fun q hq => (HBL.out.row.own.lt q hq).2) W3 hW3
            rw [← hW3]
            have HB3 := hide (HBL.out.quiet hb3)
            have z0 := HB3.out.c2
            have z1 := HB3.out.f 2
            have HT1 := hide ht1
            have HT2 := hide ht2
            have hos3 := HB3.out.os
            obtain ⟨i0, hi, hz, hs1, hby⟩ := info_parts record_info
            clear hW3 hb3 hz3 ht1 ht2 hcs hmk hos
            have HBAL : Hid (Below W3.heap.size W3 (W3.alloc (.cells #[.int .i64 (100 * (k : Int) + (j : Int)), .slice (some ⟨wr.heap.size, 0, none⟩) 1 1, .slice (some ⟨wr.heap.size + 1, 0, none⟩) N N] 80))) := hide (balloc (Below.refl _ _) _)
            have hlr : (List.replicate N (0 : UInt8)).length = N := List.length_replicate
            have HLR := hide hlr
            have HPC : Hid (PRec.cells ⟨⟨100 * (k : Int) + (j : Int), [UInt8.ofNat (97 + N)], List.replicate N 0⟩, some ⟨wr.heap.size, 0, none⟩, 1, some ⟨wr.heap.size + 1, 0, none⟩, N⟩ = [.int .i64 (100 * (k : Int) + (j : Int)), .slice (some ⟨wr.heap.size, 0, none⟩) 1 1, .slice (some ⟨wr.heap.size + 1, 0, none⟩) N N]) := by
              show _ = _
              unfold PRec.cells
              rw [HLR.out]; rfl
            clear hlr
            go_wp2_with (at_builtin; refine wpList_append_own_at (w := W3.alloc _) rfl (.tmp 61) (.tmp 63) 34 rfl (BB + 1) 80 i0 _ 3 56 Tryz.underlying34 hi hz hs1 hby rfl (by omega) (.slice Ab ps.length cb) ps.length (ps.flatMap PRec.cells) rfl (HB3.out.row.own.alloc _) ⟨W3.heap.size, 0, none⟩ 1 1 (PRec.cells ⟨⟨100 * (k : Int) + (j : Int), [UInt8.ofNat (97 + N)], List.replicate N 0⟩, some ⟨wr.heap.size, 0, none⟩, 1, some ⟨wr.heap.size + 1, 0, none⟩, N⟩) rfl rfl (by rw [HPC.out]; exact cells_three _ _ _ _ _) (PRec.cells_one _) (by have := HPL.out; simp only [maxLen]; omega) (by have := HPL.out; omega) (by simp; omega) ?_; intro v5 wd hown5 hg5 hnil5 hat5; obtain ⟨g5, c5, rfl⟩ := row_succ' hown5; have ymid := HB3.out.mid HBAL.out hg5; have y2 := ymid.1; have y3 := ymid.2; have HPUSH := hide (HB3.out.push (q := ⟨⟨100 * (k : Int) + (j : Int), [UInt8.ofNat (97 + N)], List.replicate N 0⟩, some ⟨wr.heap.size, 0, none⟩, 1, some ⟨wr.heap.size + 1, 0, none⟩, N⟩) HT1.out HT2.out HBAL.out hg5 hat5 hown5); clear hown5 hg5 hnil5 hat5 ymid)
            refine ⟨⟨j + 1, _, _, by omega, by go_num, HPUSH.out, ?_⟩, by simp [intOf]; omega⟩
            rw [List.map_append, HPS.out, List.range_succ, List.map_append, List.map_singleton, List.map_singleton, HRC.out]
          · obtain rfl : j = nz + 1 := by omega
            go_wp2_with fail
            go_meet
            exact ⟨_, ps, HBL.out, HPS.out⟩
      case rest =>
        obtain ⟨v, ps, hbld, hps⟩ := hcut
        have HBL := hide hbld
        have HPS := hide hps
        obtain ⟨Ab, cb, rfl, hpc, hpm, -⟩ := hbld.row.val
        have c0 := hbld.c0
        have c1 := hbld.c1
        have c2 := hbld.c2
        have hbw := hbld.below
        have HBW := hide hbw
        have HR6 := hide (HRW.out.below hbw)
        have hep1 : 0 ≤ ep ∧ ep ≤ 1000 := by
          rw [HE1.out]
          omega
        have HNEW := hide (hbld.row.newBat (a : Int) ep (by omega) (by omega))
        have hpl : (ps.map (·.r)).length = ps.length := List.length_map _
        have HPL := hide hpl
        have HBAL : Hid (Below wc.heap.size wc (wc.alloc (.cells #[.int .i64 (a : Int), .int .i64 ep, .slice Ab ps.length cb] 36))) := hide (balloc (Below.refl _ _) _)
        have HZW : Hid (w.heap.size ≤ wc.heap.size) := hide (Nat.le_trans HBK.out.size hbw.size)
        have HPC : Hid (PBat.cells ⟨⟨(a : Int), ep, ps.map (·.r)⟩, Ab, cb⟩ = [.int .i64 (a : Int), .int .i64 ep, .slice Ab ps.length cb]) := by
          show _ = _
          unfold PBat.cells
          rw [HPL.out]
        obtain ⟨i0, hi, hz, hs1, hby⟩ := info_parts batch_info
        clear hbld hps hbw hpl
        go_wp2_with (at_builtin; refine wpList_append_own_at (w := wc.alloc _) rfl (.tmp 69) (.tmp 71) 26 rfl w.heap.size 36 i0 _ 3 40 Tryz.underlying26 hi hz hs1 hby rfl (by omega) (.slice Av qs.length cv) qs.length (qs.flatMap PBat.cells) rfl (HR6.out.own.alloc _) ⟨wc.heap.size, 0, none⟩ 1 1 (PBat.cells ⟨⟨(a : Int), ep, ps.map (·.r)⟩, Ab, cb⟩) rfl rfl (by rw [HPC.out]; exact cells_three _ _ _ _ _) (PBat.cells_one _) (by have := HQL.out; simp only [maxLen]; omega) (by have := HQL.out; omega) (by have := HZW.out; simp; omega) ?_; intro v5 wd hown5 hg5 hnil5 hat5; have HROW5 := hide (HR6.out.app (q := ⟨⟨(a : Int), ep, ps.map (·.r)⟩, Ab, cb⟩) (by have := HBK.out.size; have := HBB.out; omega) HNEW.out (Above.refl _ _) (fun q hq => by have := (HRW.out.own.lt q hq).2; have := HBB.out; omega) HBAL.out hg5 hat5 hown5); have HB5 := hide ((HBK.out.trans (HBW.out.mono HBK.out.size)).trans ((HBAL.out.mono HZW.out).trans ((Below.refl w.heap.size _).grown hg5 (by have := HZW.out; simp; omega) (fun q hq => (HRW.out.own.lt q hq).1)))); clear hown5 hg5 hnil5 hat5)
        refine ⟨⟨k + 1, a + (nz + 1), _, by omega, by go_num, by go_num, by omega, HROW5.out, by rw [List.length_append, HQL.out]; rfl, HB5.out, ?_⟩, by simp [intOf]; omega⟩
        rw [← HGO.out, HDR.out, List.map_append, List.append_assoc, Rw.go]
        have e1 : Rw.bt (a : Int) k 0 z = ⟨(a : Int), ep, ps.map (·.r)⟩ := by
          unfold Rw.bt
          rw [HPS.out, HMN.out, ← HEP.out]
        have e2 : ((a : Int) + (Rw.many z : Int)) = ((a + (nz + 1) : Nat) : Int) := by
          rw [HMN.out]; omega
        rw [e1, e2]
        rfl
    · obtain rfl : k = zs.length := by omega
      obtain ⟨Ax, cx, hv, hc1, hc2, hbx⟩ := HRW.out.val
      injection hv with hv1 hv2 hv3
      subst hv1 hv3
      have HBX := hide hbx
      clear hbx
      have HEN : Hid (qs.map (·.b) = Rw.go base 0 0 zs) := by
        show _ = _
        rw [← HGO.out, List.drop_length]
        simp [Rw.go]
      go_wp2_with fail
      go_ret
      refine ⟨⟨Av, cv, by rw [HQL.out]; rfl, by rw [← HQL.out]; exact hc1, hc2, by rw [← HEN.out]; exact HBX.out, qs, by rw [← HQL.out]; exact HRW.out, HEN.out⟩, HBK.out⟩
end Go.Proofs.YtcmgppacipdnaaaGreatDoor

namespace Go.Proofs.YtcmgppacipdnaaaGreatDoor
open Go.RowKit Go.Maps Go.Sort

theorem seg_name {base : Int} (h : 0 ≤ base ∧ base ≤ 1099511627776) : (Nm.seg base).length = 17 := by
  unfold Nm.seg
  rw [if_pos (show Nm.right base from h)]
  exact Nm.segN_length _

set_option maxRecDepth 100000 in
set_option maxHeartbeats 1000000 in
theorem sgBegin_any (D : Nat) (base every : Int) (w : World) (h0 : 0 ≤ base ∧ base ≤ 1099511627776) (h1 : 1 ≤ every ∧ every ≤ 1048576) (ht : PowTab w) :
    Calls Tryz.prog 157 #[.pointer (some ⟨D, 0, none⟩), .int .i64 base, .int .i64 every] w fun e w' => ∃ X, e = .returned (.tuple #[.pointer (some ⟨X, 0, none⟩), .nilIface]) ∧ SegAt w' X D (Sg.begin (Nm.seg base) base every) (fun k => w.heap.size ≤ k ∧ k < w'.heap.size) ∧ Below w.heap.size w w' := by
  have HSG := hide (segment_any base w ht)
  have HNW := hide (fun (W : World) => ixNew_any every W h1)
  have hl := seg_name h0
  generalize Nm.seg base = r at *
  have hz : r.isEmpty = false := by
    cases r with
    | nil => simp at hl
    | cons a r => rfl
  clear ht hl
  go_enter Tryz.func157, Tryz.ntmps157
  go_wp2_with (first
    | (go_at_call 156; refine HSG.out.mono ?_; rintro e w1 ⟨rfl, hb1⟩; have HB1 := hide hb1; clear hb1)
    | (go_at_call 71; refine (HNW.out _).mono ?_; rintro e w2 ⟨rfl, -, hb2⟩; have HB2 := hide (HB1.out.trans (hb2.mono HB1.out.size)); clear hb2)
    | fail)
  go_ret2
  refine ⟨w2.heap.size + 1, by simp, ⟨.slice (some ⟨w2.heap.size, 0, none⟩) 1 1, ?_, ?_, ?_, ?_⟩, balloc (balloc HB2.out _) _⟩
  · have h := heap_alloc_new (w2.alloc (.cells #[.int .i64 base, .int .i64 0, .int .i64 0, .int .i64 0] 138)) (.cells (sgCells D (Sg.begin r base every) (.slice (some ⟨w2.heap.size, 0, none⟩) 1 1)) 141)
    simpa [sgCells, Sg.begin] using h
  · refine ⟨rfl, .inr ⟨w2.heap.size, 1, #[.int .i64 base, .int .i64 0, .int .i64 0, .int .i64 0], rfl, Nat.zero_le _, ?_, Nat.le_refl _, by decide, rfl, rfl⟩⟩
    exact ((balloc (Below.refl _ _) _).block w2.heap.size (by simp)).trans (heap_alloc_new w2 _)
  · have := HB2.out.size
    simp
    omega
  · intro g hg
    have e : w2.heap.size = g := by simpa [Value.ownBlock] using hg
    have := HB2.out.size
    simp
    omega

end Go.Proofs.YtcmgppacipdnaaaGreatDoor

namespace Go.Proofs.YtcmgppacipdnaaaGreatDoor
open Go.RowKit Go.Maps Go.Sort

theorem Bats.at_ {w : World} {A : Option Addr} {cs : List Rc.Bat} (h : Bats w A cs) (k : Nat) (hk : k < cs.length) : ∃ b off, A = some ⟨b, off, none⟩ ∧ b < w.heap.size ∧ ∃ Ax cx, w.cell? ⟨b, off + k * 3, none⟩ = some (.int .i64 cs[k].base) ∧ w.cell? ⟨b, off + k * 3 + 1, none⟩ = some (.int .i64 cs[k].epoch) ∧ w.cell? ⟨b, off + k * 3 + 2, none⟩ = some (.slice Ax cs[k].recs.length cx) ∧ IsBat w Ax cx cs[k] := by
  rcases h with h | ⟨b, off, e, hb, hc⟩
  · rw [h] at hk; simp at hk
  · obtain ⟨Ax, cx, h0, h1, h2, h3⟩ := (hc k hk).ex
    exact ⟨b, off, e, hb, Ax, cx, h0, h1, h2, h3⟩
theorem SgW.cellW {w0 w : World} {S T : Nat → Prop} {n Bd X : Nat} {d : Dk.St} {s : Sg.St} (h : SgW w0 S T n Bd d X s w) {W : World} (hc : Chg (fun k => S k ∨ T k) w W) : Below w0.heap.size w0 W :=
  h.below.trans (hc.below h.below.size fun k hk => by
    rcases hk with hk | hk
    · exact (h.disk.lo k hk).1
    · exact (h.lo k hk).1)

end Go.Proofs.YtcmgppacipdnaaaGreatDoor

namespace Go.Proofs.YtcmgppacipdnaaaGreatDoor
open Go.RowKit Go.Maps Go.Sort

theorem good_cut {b : Rc.Bat} (g : Rc.Good b) (o : Int) (q : Nat) (hq : q < b.recs.length) (ho : o = b.base + q) : Rc.Good (cutB b o q) := by
  have hl : (cutB b o q).recs.length = b.recs.length - q := by simp [cutB]
  have g1 := g.n1
  have g2 := g.base0
  have g3 := g.base1
  refine ⟨by omega, by omega, ?_, ?_, g.ep0, g.ep1, fun r hr => g.recs r (List.mem_of_mem_drop hr)⟩
  · show 0 ≤ o; omega
  · show o + ((cutB b o q).recs.length : Int) ≤ _; omega
theorem bytes_most (b : Rc.Bat) (g : Rc.Good b) : (Rc.bytes b).length ≤ 100000 := by
  have h := Rc.bytes_le b g 64 512 (by omega) (by omega) fun r hr => ⟨(g.recs r hr).2.2.1, (g.recs r hr).2.2.2⟩
  have h2 := g.n1
  omega
theorem cnt_le (l : List Sg.Edge) (P : Sg.Edge → Bool) : Sg.cnt l P ≤ l.length := by
  unfold Sg.cnt
  have h := List.countP_le_length (p := fun i => !P (Sg.ed l i)) (l := List.range l.length)
  rwa [List.length_range] at h
/-- What a Read of a segment made of batches finds: from the k-th batch on, its q-th record. -/
theorem Md.read {d : Dk.St} {s s0 : Sg.St} {room used : Int} {names : Dk.Dir} {x : Nat} {bs : List Rc.Bat} (h : Md d s room used names s0 x bs) (hl : (bs.flatMap Rc.bytes).length ≤ 1000000) (o most : Int) (k q : Nat) (hk : k < bs.length) (hq : o = bs[k].base + q) (hql : q < bs[k].recs.length) :
    ∃ f fin : Nat, f = Sg.cnt s.edges (fun e => decide (most < e.pos - ((Sg.ed s.edges (k + 1)).pos - (Rc.bytes (cutB bs[k] o q)).length))) ∧ (fin : Int) = max ((k : Int) + 1) ((f : Int) - 1) ∧ fin ≤ bs.length ∧ ReadH d s o most k q f fin bs[k] ((bs.drop (k + 1)).take (fin - (k + 1))) := by
  have hg := good_cut (h.good bs[k] (List.getElem_mem hk)) o q hql hq
  have hc := cnt_le s.edges (fun e => decide (most < e.pos - ((Sg.ed s.edges (k + 1)).pos - (Rc.bytes (cutB bs[k] o q)).length)))
  rw [h.len] at hc
  obtain ⟨fin, hfin⟩ : ∃ fin : Nat, (fin : Int) = max ((k : Int) + 1) (((Sg.cnt s.edges (fun e => decide (most < e.pos - ((Sg.ed s.edges (k + 1)).pos - (Rc.bytes (cutB bs[k] o q)).length)))) : Int) - 1) := ⟨(max ((k : Int) + 1) (((Sg.cnt s.edges (fun e => decide (most < e.pos - ((Sg.ed s.edges (k + 1)).pos - (Rc.bytes (cutB bs[k] o q)).length)))) : Int) - 1)).toNat, by omega⟩
  have hfl : fin ≤ bs.length := by omega
  refine ⟨_, fin, rfl, hfin, hfl, ?_⟩
  have e := h.seg
  have hsz := bytes_most _ hg
  subst e
  exact read_adds d s0 h.one h.zero bs h.chain h.good hl x (h.has.find _ _ h.nm) h.bytes o most k q _ fin hk hq hql ((Rc.bad_good _).2 hg) (by omega) rfl hfin hfl

end Go.Proofs.YtcmgppacipdnaaaGreatDoor
