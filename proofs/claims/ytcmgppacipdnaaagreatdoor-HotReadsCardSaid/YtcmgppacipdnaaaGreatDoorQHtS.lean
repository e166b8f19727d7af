/-
  A log of segments: Segs.
  Row of any base and of any step of epochs, with the row's own blocks.
  A log of segments: the statements' first.
  A Read's limit, plainly: what it is told is as many batches as go within the limit, but the first; with a greater limit more.
-/
import Derived.Test.YtcmgppacipdnaaaGreatDoorQHtN
import Derived.Test.YtcmgppacipdnaaaGreatDoorQRMake
import Derived.Test.YtcmgppacipdnaaaGreatDoorQSgN
namespace Go.Proofs.YtcmgppacipdnaaaGreatDoor
open Go.RowKit Go.Maps

abbrev triC (g : Ht.Gr) : List Value := [.int .i64 g.1, .int .i64 (Ht.lastOff g.1 g.2), .int .i64 (Ht.size g.2 : Nat)]
theorem tri_info : (Tryz.prog.info? 37).map (fun i => (i.zero, i.size, i.bytes)) = some (some (.agg #[.int .i64 0, .int .i64 0, .int .i64 0]), 3, 24) := by kernel_rfl
/-- A row of what Segs tells. -/
def OwnTri (w : World) (base : Nat) (v : Value) (l : List Ht.Gr) : Prop := w.ownsRow base 37 3 v l.length (l.flatMap triC)
theorem tris_at : ∀ (l : List Ht.Gr) (k : Nat), k < l.length → (l.flatMap triC)[k * 3]? = some (.int .i64 (l.getD k (0, [])).1) ∧ (l.flatMap triC)[k * 3 + 1]? = some (.int .i64 (Ht.lastOff (l.getD k (0, [])).1 (l.getD k (0, [])).2)) ∧ (l.flatMap triC)[k * 3 + 2]? = some (.int .i64 (Ht.size (l.getD k (0, [])).2 : Nat))
  | m :: l, 0, _ => ⟨rfl, rfl, rfl⟩
  | m :: l, k + 1, hk => by
    obtain ⟨h1, h2, h3⟩ := tris_at l k (by simp at hk; omega)
    have e : (m :: l).getD (k + 1) (0, []) = l.getD k (0, []) := rfl
    rw [e]
    simp only [List.flatMap_cons]
    rw [List.getElem?_append_right (by simp; omega), List.getElem?_append_right (by simp; omega), List.getElem?_append_right (by simp; omega)]
    simp only [List.length_cons, List.length_nil]
    rw [show (k + 1) * 3 - (0 + 1 + 1 + 1) = k * 3 by omega, show (k + 1) * 3 + 1 - (0 + 1 + 1 + 1) = k * 3 + 1 by omega, show (k + 1) * 3 + 2 - (0 + 1 + 1 + 1) = k * 3 + 2 by omega]
    exact ⟨h1, h2, h3⟩
/-- The row as it is read. -/
structure TriAt (w : World) (A : Option Addr) (c : Nat) (l : List Ht.Gr) : Prop where
  le : l.length ≤ c
  mx : c ≤ 9223372036854775807
  at_ : ∀ k, k < l.length → ∃ g, A = some ⟨g, 0, none⟩ ∧ g < w.heap.size ∧ w.cell? ⟨g, k * 3, none⟩ = some (.int .i64 (l.getD k (0, [])).1) ∧ w.cell? ⟨g, k * 3 + 1, none⟩ = some (.int .i64 (Ht.lastOff (l.getD k (0, [])).1 (l.getD k (0, [])).2)) ∧ w.cell? ⟨g, k * 3 + 2, none⟩ = some (.int .i64 (Ht.size (l.getD k (0, [])).2 : Nat))
theorem OwnTri.reads {w : World} {base : Nat} {v : Value} {l : List Ht.Gr} (h : OwnTri w base v l) : ∃ A c, v = .slice A l.length c ∧ TriAt w A c l := by
  rcases h.2 with ⟨e, k0⟩ | ⟨g, cap, cur, e, _, hh, hcap, hmx, _⟩
  · exact ⟨_, _, by rw [e, k0], by omega, by omega, fun k hk => by omega⟩
  · refine ⟨_, _, e, by omega, by simp only [maxLen] at hmx; omega, fun k hk => ⟨g, rfl, (Array.getElem?_eq_some_iff.1 hh).1, ?_⟩⟩
    have hc := World.ownsRow.cells (g := g) h (by rw [e]; rfl)
    obtain ⟨k1, k2, k3⟩ := tris_at l k hk
    refine ⟨?_, ?_, ?_⟩
    · have := hc _ _ k1; rwa [Addr.add_lit, Nat.zero_add] at this
    · have := hc _ _ k2; rwa [Addr.add_lit, Nat.zero_add] at this
    · have := hc _ _ k3; rwa [Addr.add_lit, Nat.zero_add] at this
theorem TriAt.below {w w' : World} {A : Option Addr} {c : Nat} {l : List Ht.Gr} (h : TriAt w A c l) (hb : Below w.heap.size w w') : TriAt w' A c l :=
  ⟨h.le, h.mx, fun k hk => by
    obtain ⟨g, e, hg, h0, h1, h2⟩ := h.at_ k hk
    exact ⟨g, e, Nat.lt_of_lt_of_le hg hb.size, (hb.cell (p := ⟨g, k * 3, none⟩) hg).trans h0, (hb.cell (p := ⟨g, k * 3 + 1, none⟩) hg).trans h1, (hb.cell (p := ⟨g, k * 3 + 2, none⟩) hg).trans h2⟩⟩
set_option maxRecDepth 100000 in
set_option maxHeartbeats 1000000 in
theorem htSegs_A {w0 w : World} {U : Nat → Prop} {n Bd H : Nat} {sz ev room : Int} {gs : List Ht.Gr} (h : HtA w0 U n Bd H sz ev room gs w) (hl : gs.length ≤ 10000) :
    Calls Tryz.prog 19 #[.pointer (some ⟨H, 0, none⟩)] w fun e w' => ∃ v, e = .returned v ∧ OwnTri w' w.heap.size v gs ∧ Below w.heap.size w w' := by
  obtain ⟨d, S, C, vs, vb, qs, names, h2, g, h3, rfl⟩ := h
  have hqg : qs.length = gs.length := by rw [← h3, List.length_map]
  obtain ⟨A, c, A', c', rfl, rfl, hq, -, -, -, -, c3, -⟩ := h2.cells
  have HQ := hide hq
  have hval : ∀ k, k < gs.length → ∃ q ∈ qs, qs.getD k default = q ∧ gs.getD k (0, []) = (q.base, q.bs) := fun k hk => by
    refine ⟨qs.getD k default, ?_, rfl, ?_⟩
    · rw [show qs.getD k default = qs[k]'(by omega) from by simp [List.getD, show k < qs.length by omega]]
      exact List.getElem_mem _
    · rw [← h3]
      simp [List.getD, show k < qs.length by omega]
  have HB := hide (fun (k : Nat) (hk : k < gs.length) (W : World) (hw : Below w.heap.size w W) => by
    obtain ⟨q, hq2, e1, e2⟩ := hval k hk
    obtain ⟨k1, k2, -, -⟩ := h2.each q hq2
    have hm := g.mz q hq2
    have a1 := sgBase_any q.X Bd q.s q.T W (k1.below hw) k2
    have a2 := sgEnd_any q.X Bd q.s q.T W (k1.below hw) k2
    have a3 := sgSize_any q.X Bd q.s q.T W (k1.below hw) k2
    rw [show (Sg.ed q.s.edges 0).off = q.base from by rw [hm.edges, Sg.adds_ed _ _ 0 (by simp [Sg.begin])]; rfl] at a1
    rw [hm.lastOff.1] at a2
    rw [hm.pos] at a3
    exact (⟨by rw [e1, e2]; exact a1, by rw [e1, e2]; exact a2, by rw [e1, e2]; exact a3⟩ : Calls Tryz.prog 49 #[.pointer (some ⟨(qs.getD k default).X, 0, none⟩)] W (fun e w' => e = .returned (.int .i64 (gs.getD k (0, [])).1) ∧ Below W.heap.size W w') ∧
      Calls Tryz.prog 50 #[.pointer (some ⟨(qs.getD k default).X, 0, none⟩)] W (fun e w' => e = .returned (.int .i64 (Ht.lastOff (gs.getD k (0, [])).1 (gs.getD k (0, [])).2)) ∧ Below W.heap.size W w') ∧
      Calls Tryz.prog 51 #[.pointer (some ⟨(qs.getD k default).X, 0, none⟩)] W (fun e w' => e = .returned (.int .i64 (Ht.size (gs.getD k (0, [])).2 : Nat)) ∧ Below W.heap.size W w')))
  rw [hqg] at c3
  have HLN := hide hqg
  have HGL := hide hl
  obtain ⟨N, hN⟩ : ∃ N, N = gs.length := ⟨_, rfl⟩
  rw [← hN] at c3 HGL HLN
  have HN := hide hN.symm
  have hgN : N ≤ 10000 := HGL.out
  clear h2 g h3 hq hval hqg hl hN
  go_enter Tryz.func19, Tryz.ntmps19
  go_wp2_with fail
  go_loopw [3, 11] (fun v i wr => ∃ k : Nat, k ≤ N ∧ i = .int .i64 k ∧ wr.ownsRow w.heap.size 37 3 v k ((gs.take k).flatMap triC) ∧ Below w.heap.size w wr) (fun _ i _ => N - (intOf i).toNat)
  case atStart => exact ⟨0, Nat.zero_le _, rfl, World.ownsRow_nil _ _ _ 3, Below.refl _ _⟩
  case round =>
    obtain ⟨k, hk, rfl, ho, hb⟩ := hrel
    have HO := hide ho
    have HBW := hide hb
    obtain ⟨Av, nv, cv, rfl⟩ := own_slice ho
    clear ho hb
    by_cases hlt : k < N
    · have hkg : k < gs.length := by rw [HN.out]; exact hlt
      obtain ⟨g0, hA, hg0, hcell⟩ := HQ.out.at_ k (by rw [HLN.out]; exact hlt)
      subst hA
      have hcell := (HBW.out.cell (p := ⟨g0, k, none⟩) hg0).trans hcell
      have HC := hide (fun (W : World) (hw : Below wr.heap.size wr W) => HB.out k hkg W (HBW.out.trans (hw.mono HBW.out.size)))
      have htk : gs.take (k + 1) = gs.take k ++ [gs.getD k (0, [])] := by
        rw [List.take_succ_eq_append_getElem hkg]
        simp [List.getD, hkg]
      have HTK := hide htk
      have HC63 := hide HQ.out.le
      have hcx : k < c := by have := HQ.out.le; rw [HLN.out] at this; omega
      have hcm := HQ.out.mx
      unfold hqV at hcell
      clear htk
      obtain ⟨gv, hgv⟩ : ∃ gv, gv = gs.getD k (0, []) := ⟨_, rfl⟩
      rw [← hgv] at HC HTK
      obtain ⟨ga, gb⟩ := gv
      generalize hlo : Ht.lastOff (ga, gb).1 (ga, gb).2 = lo at *
      generalize hsi : Ht.size (ga, gb).2 = si at *
      have HTR : Hid (triC (ga, gb) = [.int .i64 ga, .int .i64 lo, .int .i64 (si : Nat)]) := hide (by rw [← hlo, ← hsi])
      simp only at HC
      clear hlo hsi hgv
      generalize (qs.getD k default).X = Xk at *
      go_wp2_with (first
        | (go_at_call 49; refine (HC.out wr (Below.refl _ _)).1.mono ?_; rintro e w1 ⟨rfl, hb1⟩; have HB1 := hide hb1; clear hb1)
        | (go_at_call 50; refine (HC.out w1 HB1.out).2.1.mono ?_; rintro e w2 ⟨rfl, hb2⟩; have HB2 := hide (HB1.out.trans (hb2.mono HB1.out.size)); clear hb2)
        | (go_at_call 51; refine (HC.out w2 HB2.out).2.2.mono ?_; rintro e w3 ⟨rfl, hb3⟩; have HB3 := hide (HB2.out.trans (hb3.mono HB2.out.size)); clear hb3)
        | (at_builtin; refine wpList_appG (w := w3.alloc _) rfl 32 37 3 24 _ (by kernel_rfl) tri_info rfl (by omega) (.tmp 15) (.tmp 23) rfl w.heap.size _ k ((gs.take k).flatMap triC) rfl (ownsRow_same HO.out fun g hg => (HB3.out.trans ((balloc (Below.refl _ _) _).mono HB3.out.size)).block g (HO.out.lt g hg).2) ⟨w3.heap.size, 0, none⟩ 1 1 [.int .i64 ga, .int .i64 lo, .int .i64 (si : Nat)] rfl rfl (news3 (w := w3)) (by intro u hu; simp at hu; rcases hu with rfl | rfl | rfl <;> rfl) (by simp only [maxLen]; omega) (by omega) (by have h1 := HBW.out.size; have h2 := HB3.out.size; simp; omega) ?_; intro v4 w4 hown4 hg4 hv4; have HO4 := hide hown4; have HB4 : Hid (Below w.heap.size w w4) := hide ((HBW.out.trans ((HB3.out.trans ((balloc (Below.refl _ _) _).mono HB3.out.size)).mono HBW.out.size)).grown hg4 (by have h1 := HBW.out.size; have h2 := HB3.out.size; simp; omega) (fun g hg => (HO.out.lt g hg).1)); clear hown4 hg4 hv4)
        | fail)
      refine ⟨⟨k + 1, by omega, by simp, ?_, HB4.out⟩, by simp [intOf]; omega⟩
      rw [HTK.out, List.flatMap_append]
      simp only [List.flatMap_cons, List.flatMap_nil, List.append_nil]
      rw [HTR.out]
      exact HO4.out
    · obtain rfl : k = N := by omega
      go_wp2_with fail
      go_ret
      refine ⟨_, rfl, ?_, HBW.out⟩
      have h := HO.out
      rw [List.take_of_length_le (by have := HN.out; omega)] at h
      unfold OwnTri
      rw [HN.out]
      exact h
end Go.Proofs.YtcmgppacipdnaaaGreatDoor

namespace Go.Proofs.YtcmgppacipdnaaaGreatDoor
open Go.RowKit
set_option maxRecDepth 100000 in
set_option maxHeartbeats 4000000 in
theorem rowV_any (base : Nat) (A : Option Addr) (cap n ev : Nat) (zs : List Int) (w : World) (hn : zs.length = n) (hn2 : n ≤ 20) (hb : base ≤ 1073741824) (hev : 0 < ev) (hev2 : ev ≤ 100) (hA : Ints w A zs) (hz : ∀ k, k < zs.length → -9223372036854775808 ≤ zs.getD k 0 ∧ zs.getD k 0 ≤ 9223372036854775807) :
    Calls Tryz.prog 15 #[.int .i64 base, .slice A n cap, .int .i64 ev] w fun e w' => (∃ A c, e = .returned (.slice A n c) ∧ n ≤ c ∧ c ≤ 9223372036854775807 ∧ Bats w' A (Rw.go base 0 ev zs) ∧ ∃ qs, BRow w' w.heap.size (.slice A n c) qs ∧ qs.map (·.b) = Rw.go base 0 ev zs) ∧ Below w.heap.size w w' := by
  subst hn
  have HA := hide hA
  have HZ := hide hz
  clear hA hz
  go_enter Tryz.func15, Tryz.ntmps15
  go_wp2_with fail
  go_loopw [7, 8, 9] (fun v at_ i wr => ∃ (k : Nat) (a : Nat) (qs : List PBat), k ≤ zs.length ∧ i = .int .i64 k ∧ at_ = .int .i64 a ∧ a ≤ base + 5 * k ∧ BRow wr w.heap.size v qs ∧ qs.length = k ∧ Below w.heap.size w wr ∧ qs.map (·.b) ++ Rw.go a k ev (zs.drop k) = Rw.go base 0 ev zs) (fun _ _ i _ => zs.length - (intOf i).toNat)
  case atStart => exact ⟨0, base, [], Nat.zero_le _, rfl, rfl, by omega, BRow.nil _ _, rfl, Below.refl _ _, by simp⟩
  case round =>
    obtain ⟨k, a, qs, hk, rfl, rfl, ha, hrow, hql, hb, hgo⟩ := hrel
    have HRW := hide hrow
    have HBK := hide hb
    have HGO := hide hgo
    have HQL := hide hql
    clear hrow hb hgo hql
    obtain ⟨Av, cv, rfl, -, -, -⟩ := HRW.out.val
    by_cases hlt : k < zs.length
    · rcases HA.out with e0 | ⟨b, off, rfl, hb0, hcl⟩
      · rw [e0] at hlt; simp at hlt
      have hcell : wr.cell? ⟨b, off + k, none⟩ = some (.int .i64 (zs.getD k 0)) := (HBK.out.cell (p := ⟨b, off + k, none⟩) hb0).trans (hcl k hlt)
      obtain ⟨bd1, bd2⟩ := HZ.out k hlt
      have HDR : Hid (zs.drop k = zs.getD k 0 :: zs.drop (k + 1)) := by
        show _ = _
        rw [List.drop_eq_getElem_cons hlt]; simp [List.getD, hlt]
      have HCEL := hide (hcl k hlt)
      have HB0L := hide hb0
      clear hcl
      generalize zs.getD k 0 = z at *
      have hbl : b < wr.heap.size := Nat.lt_of_lt_of_le hb0 HBK.out.size
      go_upto_region 7 with fail
      have hbld := Bld.new (Below.refl wr.heap.size wr) (a : Int) 1 36
      have HBD := hide hbld
      obtain ⟨BB, hBB⟩ : ∃ BB, BB = wr.heap.size := ⟨_, rfl⟩
      rw [← hBB] at HBD ⊢
      have HBB := hide hBB
      have y0 := HBD.out.c1
      have y1 := HBD.out.f 1
      have HW4 : Hid (Below wr.heap.size wr (wr.alloc (.cells #[.int .i64 (a : Int), .int .i64 1, .slice none 0 0] 36))) := hide (balloc (Below.refl _ _) _)
      clear hbld hBB
      generalize wr.alloc (.cells #[.int .i64 (a : Int), .int .i64 1, .slice none 0 0] 36) = w4 at *
      have hdk : k / ev ≤ k := Nat.div_le_self _ _
      have hdv : (k : Int).tdiv (ev : Int) = ((k / ev : Nat) : Int) := by rw [Int.tdiv_eq_ediv_of_nonneg (by omega)]; rfl
      have HDK := hide hdk
      go_upto_region 9 with fail
      have hep : wrap64 (1 + wrap64 ((k : Int) / (ev : Int))) = 1 + ((k / ev : Nat) : Int) := by
        rw [show (k : Int) / (ev : Int) = ((k / ev : Nat) : Int) from rfl]
        generalize k / ev = q at *
        have hq : -9223372036854775808 ≤ (q : Int) ∧ (q : Int) ≤ 9223372036854775807 := by omega
        rw [IntWalk.wrap64_in (q : Int) hq, IntWalk.wrap64_in (1 + (q : Int)) (by omega)]
      rw [hep]
      have HB5 := hide (HBD.out.num1 (1 + ((k / ev : Nat) : Int)))
      have HW5 := hide (HW4.out.trans ((Below.refl _ _).setCell (p := ⟨BB, 1, none⟩) (by show _ ≤ BB; rw [HBB.out]; exact Nat.le_refl _) (.int .i64 (1 + ((k / ev : Nat) : Int)))))
      clear hep hdv hdk y0 y1 HBD HW4
      generalize hepo : 1 + ((k / ev : Nat) : Int) = ep at *
      have HEP := hide hepo
      clear hepo
      generalize w4.setCell ⟨BB, 1, none⟩ (.int .i64 ep) = w5 at *
      have hc5 := (HW5.out.cell (p := ⟨b, off + k, none⟩) hbl).trans hcell
      have HNM := hide (fun W => num_at z 5 5 W rfl (by omega) (by omega) bd1 bd2)
      have hm5 := num_lt z 5 (by omega)
      go_wp2_with fail
      refine (HNM.out _).mono ?_
      rintro e w6 ⟨rfl, rfl⟩
      have HMN : Hid (Rw.many z = num z 5 + 1) := hide rfl
      generalize num z 5 = nz at *
      clear HNM hcell
      go_upto_block 2 with fail
      go_cut [12] (fun _ wx => ∃ v ps, Bld wr wx BB (BB + 1) a ep v ps ∧ ps.map (·.r) = (List.range (nz + 1)).map (Rw.rc k z))
      case first =>
        go_wp2_with fail
        go_loopw [12] (fun i wi => ∃ (j : Nat) (v : Value) (ps : List PRec), j ≤ nz + 1 ∧ i = .int .i64 j ∧ Bld wr wi BB (BB + 1) a ep v ps ∧ ps.map (·.r) = (List.range j).map (Rw.rc k z)) (fun i _ => nz + 1 - (intOf i).toNat)
        case atStart => exact ⟨0, _, [], Nat.zero_le _, rfl, HB5.out, by simp⟩
        case round =>
          obtain ⟨j, v, ps, hj, rfl, hbld, hps⟩ := hrel
          have HBL := hide hbld
          have HPS := hide hps
          have hpl : ps.length = j := by
            have := congrArg List.length hps
            rwa [List.length_map, List.length_map, List.length_range] at this
          have HPL := hide hpl
          clear hps hpl
          by_cases hlj : j < nz + 1
          · have hci := (hbld.below.cell (p := ⟨b, off + k, none⟩) hbl).trans ((HBK.out.cell (p := ⟨b, off + k, none⟩) HB0L.out).trans HCEL.out)
            have HNV := hide (fun W => num_at (IntKind.i64.wrap (z + j)) 9 9 W rfl (by omega) (by omega) (by rw [IntKind.wrap_i64]; omega) (by rw [IntKind.wrap_i64]; omega))
            have hkv : num (IntKind.i64.wrap (z + j)) 9 = Rw.kv z j := rfl
            rw [hkv, IntWalk.i64_left] at HNV
            have hkl := Rw.kv_lt z j
            have HRC : Hid (Rw.rc k z j = ⟨100 * (k : Int) + j, [UInt8.ofNat (97 + Rw.kv z j)], List.replicate (Rw.kv z j) 0⟩) := hide rfl
            generalize Rw.kv z j = N at *
            obtain ⟨CS, hcs, hmk⟩ := make_bytes N (by omega)
            obtain ⟨Ab, cb, rfl, -, -, -⟩ := hbld.row.val
            have z0 := hbld.c2
            have z1 := hbld.f 2
            have hos := hbld.os
            clear hbld hkv
            go_wp2_with fail
            refine (HNV.out _).mono ?_
            rintro e w9 ⟨rfl, rfl⟩
            clear HNV
            go_upto_region 15 with fail
            obtain ⟨W3, hW3⟩ : ∃ W3, W3 = ((wr.alloc (.cells #[.int .u8 (97 + (N : Int))] 5)).alloc (.cells CS 5)).alloc (.cells #[.int .i64 (100 * (k : Int) + (j : Int)), .slice (some ⟨wr.heap.size, 0, none⟩) 1 1, .slice (some ⟨wr.heap.size + 1, 0, none⟩) N N] 80) := ⟨_, rfl⟩
            obtain ⟨hb3, hz3, ⟨x0, x1, x2⟩, ht1, ht2⟩ := row_new wr N hkl CS hcs (100 * (k : Int) + (j : Int)) (BB + 1) (.slice Ab ps.length cb) hos (fun q hq => (HBL.out.row.own.lt q hq).2) W3 hW3
            rw [← hW3]
            have HB3 := hide (HBL.out.quiet hb3)
            have z0 := HB3.out.c2
            have z1 := HB3.out.f 2
            have HT1 := hide ht1
            have HT2 := hide ht2
            have hos3 := HB3.out.os
            obtain ⟨i0, hi, hz, hs1, hby⟩ := info_parts record_info
            clear hW3 hb3 hz3 ht1 ht2 hcs hmk hos
            have HBAL : Hid (Below W3.heap.size W3 (W3.alloc (.cells #[.int .i64 (100 * (k : Int) + (j : Int)), .slice (some ⟨wr.heap.size, 0, none⟩) 1 1, .slice (some ⟨wr.heap.size + 1, 0, none⟩) N N] 80))) := hide (balloc (Below.refl _ _) _)
            have hlr : (List.replicate N (0 : UInt8)).length = N := List.length_replicate
            have HLR := hide hlr
            have HPC : Hid (PRec.cells ⟨⟨100 * (k : Int) + (j : Int), [UInt8.ofNat (97 + N)], List.replicate N 0⟩, some ⟨wr.heap.size, 0, none⟩, 1, some ⟨wr.heap.size + 1, 0, none⟩, N⟩ = [.int .i64 (100 * (k : Int) + (j : Int)), .slice (some ⟨wr.heap.size, 0, none⟩) 1 1, .slice (some ⟨wr.heap.size + 1, 0, none⟩) N N]) := by
              show _ = _
              unfold PRec.cells
              rw [HLR.out]; rfl
            clear hlr
            go_wp2_with (at_builtin; refine wpList_append_own_at (w := W3.alloc _) rfl (.tmp 61) (.tmp 63) 34 rfl (BB + 1) 80 i0 _ 3 56 Tryz.underlying34 hi hz hs1 hby rfl (by omega) (.slice Ab ps.length cb) ps.length (ps.flatMap PRec.cells) rfl (HB3.out.row.own.alloc _) ⟨W3.heap.size, 0, none⟩ 1 1 (PRec.cells ⟨⟨100 * (k : Int) + (j : Int), [UInt8.ofNat (97 + N)], List.replicate N 0⟩, some ⟨wr.heap.size, 0, none⟩, 1, some ⟨wr.heap.size + 1, 0, none⟩, N⟩) rfl rfl (by rw [HPC.out]; exact cells_three _ _ _ _ _) (PRec.cells_one _) (by have := HPL.out; simp only [maxLen]; omega) (by have := HPL.out; omega) (by simp; omega) ?_; intro v5 wd hown5 hg5 hnil5 hat5; obtain ⟨g5, c5, rfl⟩ := row_succ' hown5; have ymid := HB3.out.mid HBAL.out hg5; have y2 := ymid.1; have y3 := ymid.2; have HPUSH := hide (HB3.out.push (q := ⟨⟨100 * (k : Int) + (j : Int), [UInt8.ofNat (97 + N)], List.replicate N 0⟩, some ⟨wr.heap.size, 0, none⟩, 1, some ⟨wr.heap.size + 1, 0, none⟩, N⟩) HT1.out HT2.out HBAL.out hg5 hat5 hown5); clear hown5 hg5 hnil5 hat5 ymid)
            refine ⟨⟨j + 1, _, _, by omega, by go_num, HPUSH.out, ?_⟩, by simp [intOf]; omega⟩
            rw [List.map_append, HPS.out, List.range_succ, List.map_append, List.map_singleton, List.map_singleton, HRC.out]
          · obtain rfl : j = nz + 1 := by omega
            go_wp2_with fail
            go_meet
            exact ⟨_, ps, HBL.out, HPS.out⟩
      case rest =>
        obtain ⟨v, ps, hbld, hps⟩ := hcut
        have HBL := hide hbld
        have HPS := hide hps
        obtain ⟨Ab, cb, rfl, hpc, hpm, -⟩ := hbld.row.val
        have c0 := hbld.c0
        have c1 := hbld.c1
        have c2 := hbld.c2
        have hbw := hbld.below
        have HBW := hide hbw
        have HR6 := hide (HRW.out.below hbw)
        have hd6 : k / ev ≤ k := Nat.div_le_self _ _
        have hep1 : 0 ≤ ep ∧ ep ≤ 1000 := by
          rw [← HEP.out]
          generalize k / ev = q at *
          omega
        have HNEW := hide (hbld.row.newBat (a : Int) ep (by omega) (by omega))
        have hpl : (ps.map (·.r)).length = ps.length := List.length_map _
        have HPL := hide hpl
        have HBAL : Hid (Below wc.heap.size wc (wc.alloc (.cells #[.int .i64 (a : Int), .int .i64 ep, .slice Ab ps.length cb] 36))) := hide (balloc (Below.refl _ _) _)
        have HZW : Hid (w.heap.size ≤ wc.heap.size) := hide (Nat.le_trans HBK.out.size hbw.size)
        have HPC : Hid (PBat.cells ⟨⟨(a : Int), ep, ps.map (·.r)⟩, Ab, cb⟩ = [.int .i64 (a : Int), .int .i64 ep, .slice Ab ps.length cb]) := by
          show _ = _
          unfold PBat.cells
          rw [HPL.out]
        obtain ⟨i0, hi, hz, hs1, hby⟩ := info_parts batch_info
        clear hbld hps hbw hpl hd6
        go_wp2_with (at_builtin; refine wpList_append_own_at (w := wc.alloc _) rfl (.tmp 69) (.tmp 71) 26 rfl w.heap.size 36 i0 _ 3 40 Tryz.underlying26 hi hz hs1 hby rfl (by omega) (.slice Av qs.length cv) qs.length (qs.flatMap PBat.cells) rfl (HR6.out.own.alloc _) ⟨wc.heap.size, 0, none⟩ 1 1 (PBat.cells ⟨⟨(a : Int), ep, ps.map (·.r)⟩, Ab, cb⟩) rfl rfl (by rw [HPC.out]; exact cells_three _ _ _ _ _) (PBat.cells_one _) (by have := HQL.out; simp only [maxLen]; omega) (by have := HQL.out; omega) (by have := HZW.out; simp; omega) ?_; intro v5 wd hown5 hg5 hnil5 hat5; have HROW5 := hide (HR6.out.app (q := ⟨⟨(a : Int), ep, ps.map (·.r)⟩, Ab, cb⟩) (by have := HBK.out.size; have := HBB.out; omega) HNEW.out (Above.refl _ _) (fun q hq => by have := (HRW.out.own.lt q hq).2; have := HBB.out; omega) HBAL.out hg5 hat5 hown5); have HB5 := hide ((HBK.out.trans (HBW.out.mono HBK.out.size)).trans ((HBAL.out.mono HZW.out).trans ((Below.refl w.heap.size _).grown hg5 (by have := HZW.out; simp; omega) (fun q hq => (HRW.out.own.lt q hq).1)))); clear hown5 hg5 hnil5 hat5)
        refine ⟨⟨k + 1, a + (nz + 1), _, by omega, by go_num, by go_num, by omega, HROW5.out, by rw [List.length_append, HQL.out]; rfl, HB5.out, ?_⟩, by simp [intOf]; omega⟩
        rw [← HGO.out, HDR.out, List.map_append, List.append_assoc, Rw.go]
        have e1 : Rw.bt (a : Int) k ev z = ⟨(a : Int), ep, ps.map (·.r)⟩ := by
          unfold Rw.bt
          rw [HPS.out, HMN.out, ← HEP.out]
        have e2 : ((a : Int) + (Rw.many z : Int)) = ((a + (nz + 1) : Nat) : Int) := by
          rw [HMN.out]; omega
        rw [e1, e2]
        rfl
    · obtain rfl : k = zs.length := by omega
      obtain ⟨Ax, cx, hv, hc1, hc2, hbx⟩ := HRW.out.val
      injection hv with hv1 hv2 hv3
      subst hv1 hv3
      have HBX := hide hbx
      clear hbx
      have HEN : Hid (qs.map (·.b) = Rw.go base 0 ev zs) := by
        show _ = _
        rw [← HGO.out, List.drop_length]
        simp [Rw.go]
      go_wp2_with fail
      go_ret
      refine ⟨⟨Av, cv, by rw [HQL.out]; rfl, by rw [← HQL.out]; exact hc1, hc2, by rw [← HEN.out]; exact HBX.out, qs, by rw [← HQL.out]; exact HRW.out, HEN.out⟩, HBK.out⟩
theorem rowE_any (base : Nat) (A : Option Addr) (cap n ev : Nat) (zs : List Int) (w : World) (hn : zs.length = n) (hn2 : n ≤ 20) (hb : base ≤ 1073741824) (hev : ev ≤ 100) (hA : Ints w A zs) (hz : ∀ k, k < zs.length → -9223372036854775808 ≤ zs.getD k 0 ∧ zs.getD k 0 ≤ 9223372036854775807) :
    Calls Tryz.prog 15 #[.int .i64 base, .slice A n cap, .int .i64 ev] w fun e w' => (∃ A c, e = .returned (.slice A n c) ∧ n ≤ c ∧ c ≤ 9223372036854775807 ∧ Bats w' A (Rw.go base 0 ev zs) ∧ ∃ qs, BRow w' w.heap.size (.slice A n c) qs ∧ qs.map (·.b) = Rw.go base 0 ev zs) ∧ Below w.heap.size w w' := by
  by_cases h : ev = 0
  · subst h; exact rowZ_any base A cap n zs w hn hn2 hb hA hz
  · exact rowV_any base A cap n ev zs w hn hn2 hb (by omega) hev hA hz
end Go.Proofs.YtcmgppacipdnaaaGreatDoor

namespace Go.Proofs.YtcmgppacipdnaaaGreatDoor
open Go.RowKit Go.Maps

namespace Ht
theorem bytes_pos (b : Rc.Bat) : 0 < (Rc.bytes b).length := by rw [Rc.bytes_len]; omega
theorem size_pos {bs : List Rc.Bat} (h : bs ≠ []) : 0 < size bs := by
  cases bs with
  | nil => exact absurd rfl h
  | cons b bs =>
    have := bytes_pos b
    simp only [size, List.flatMap_cons, List.length_append]
    omega
theorem big_one {bs : List Rc.Bat} (h : bs ≠ []) (b : Rc.Bat) : big 1 bs b = true := by
  have h1 := size_pos h
  have h2 := bytes_pos b
  unfold big
  rw [decide_eq_true h1, decide_eq_true (by omega)]; rfl
/-- Where a segment has room for one batch alone. -/
theorem grp_ones (base : Int) (bs : List Rc.Bat) : (grp 1 base bs).length = if bs = [] then 1 else bs.length := by
  induction bs using snoc_ind with
  | nil => simp [grp]
  | snoc bs b ih =>
    obtain ⟨g0, o, cs, e, -, hc⟩ := grp_last 1 base bs
    rw [grp_snoc]
    rw [e] at ih ⊢
    by_cases h : bs = []
    · have h2 := (grp_all 1 base bs).1
      rw [e, h] at h2
      simp only [all, List.flatMap_append, List.append_eq_nil_iff, List.flatMap_cons, List.flatMap_nil, List.append_nil] at h2
      rw [h2.2, add_small (by simp [big, size])]
      subst h
      rw [if_pos rfl] at ih
      rw [if_neg (by simp)]
      simp only [List.length_append, List.length_singleton, List.length_nil] at ih ⊢
      omega
    · have hne : cs ≠ [] := fun h2 => h (hc h2)
      rw [add_big (big_one hne b)]
      rw [if_neg h] at ih
      rw [if_neg (by simp)]
      simp only [List.length_append, List.length_singleton] at ih ⊢
      omega
end Ht
set_option maxRecDepth 100000 in
set_option maxHeartbeats 1000000 in
theorem htFirst_any (w : World) (p : Nat → Addr) (hs : SentsG w p) (ht : Tabs w) (hpt : PowTab w) :
    Calls Tryz.prog 12 #[] w fun e w' => e = .returned (.bool true) ∧ Below w.heap.size w w' := by
  have hb1 : ∀ t, Below w.heap.size w (w.alloc (.cells #[.int .i64 1, .int .i64 1, .int .i64 1] t)) := fun t => balloc (Below.refl _ _) _
  have HRW := hide (fun (t : TypeId) => rowE_any 0 (some ⟨w.heap.size, 0, none⟩) 3 3 0 [1, 1, 1] (w.alloc (.cells #[.int .i64 1, .int .i64 1, .int .i64 1] t)) rfl (by omega) (by omega) (by omega) (.inr ⟨_, 0, rfl, by simp, fun k hk => by
    have hk2 : k < 3 := hk
    rw [Nat.zero_add, World.cell?_alloc_mark]
    match k, hk2 with
    | 0, _ => rfl
    | 1, _ => rfl
    | 2, _ => rfl⟩) (fun k hk => by
    have hk2 : k < 3 := hk
    match k, hk2 with
    | 0, _ => exact ⟨by decide, by decide⟩
    | 1, _ => exact ⟨by decide, by decide⟩
    | 2, _ => exact ⟨by decide, by decide⟩))
  have hok := Rw.go_ok [1, 1, 1] 0 0 0 (by omega) (by simp) (by simp)
  have hgd : ∀ b ∈ Rw.go ((0 : Nat) : Int) 0 0 [1, 1, 1], Rc.Good b := fun b hb => (hok b hb).1
  have hsm := Rw.go_small [1, 1, 1] ((0 : Nat) : Int) 0 0 hgd
  have hch := Rw.go_chain [1, 1, 1] ((0 : Nat) : Int) 0 0 (Sg.begin (Nm.seg 0) 0 60) rfl (by decide)
  have HMD := hide (fun (W : World) (hb : Below w.heap.size w W) (A : Option Addr) (cap : Nat) (hbt : Bats W A (Rw.go ((0 : Nat) : Int) 0 0 [1, 1, 1])) => htMade_any 1 0 A cap 3 _ W p (hs.below hb) (ht.below hb (Nat.le_refl _)) (hpt.below hb) (Rw.go_len _ _ _ _) (by omega) hbt hgd hsm (by omega) (by omega) _ rfl hch)
  have hln : (Ht.grp 1 0 (Rw.go ((0 : Nat) : Int) 0 0 [1, 1, 1])).length = 3 := by
    rw [Ht.grp_ones, if_neg (fun e => by have := congrArg List.length e; rw [Rw.go_len] at this; simp at this), Rw.go_len]; rfl
  have HLN := hide hln
  clear hs ht hpt hok hgd hsm hch hln
  generalize Rw.go ((0 : Nat) : Int) 0 0 [1, 1, 1] = cs at *
  go_enter Tryz.func12, Tryz.ntmps12
  go_wp2_with (first
    | (go_at_call 15; refine (HRW.out _).mono ?_; rintro e w2 ⟨⟨A2, c2, rfl, hc2, hm2, hbt2, -⟩, hb2⟩; have HB2 := hide ((hb1 _).trans (hb2.mono (hb1 _).size)); have HBT := hide hbt2; clear hbt2 hb2)
    | (go_at_call 16; refine (HMD.out w2 HB2.out A2 c2 HBT.out).mono ?_; rintro e w3 ⟨Bd, H, U, rfl, h3⟩; have H3 := hide h3; clear h3)
    | (go_at_call 19; refine (htSegs_A H3.out (by rw [HLN.out]; omega)).mono ?_; rintro e w4 ⟨v, rfl, ho, hb⟩; obtain ⟨A4, c4, rfl, -⟩ := ho.reads; rw [HLN.out]; have HB4 := hide (HB2.out.trans ((H3.out.below.trans (hb.mono H3.out.below.size)).mono HB2.out.size)); clear ho hb)
    | fail)
  go_ret
  exact ⟨rfl, HB4.out⟩
end Go.Proofs.YtcmgppacipdnaaaGreatDoor

namespace Go.Proofs.YtcmgppacipdnaaaGreatDoor
namespace Sg
theorem exists_cut (P : Nat → Bool) : ∀ n, (∀ i j, i ≤ j → j < n → P i = true → P j = true) → ∃ k, k ≤ n ∧ (∀ i, i < k → P i = false) ∧ ∀ i, k ≤ i → i < n → P i = true := by
  intro n
  induction n with
  | zero => intro _; exact ⟨0, Nat.le_refl _, fun i hi => by omega, fun i _ hi => by omega⟩
  | succ n ih =>
    intro hm
    obtain ⟨k, hk, h1, h2⟩ := ih fun i j hij hj => hm i j hij (by omega)
    by_cases hkn : k < n
    · refine ⟨k, by omega, h1, fun i hi hin => ?_⟩
      by_cases e : i = n
      · subst e; exact hm k i hi (by omega) (h2 k (Nat.le_refl _) hkn)
      · exact h2 i hi (by omega)
    · obtain rfl : k = n := by omega
      cases hP : P k with
      | true => exact ⟨k, by omega, h1, fun i hi hin => by obtain rfl : i = k := (by omega); exact hP⟩
      | false => exact ⟨k + 1, Nat.le_refl _, fun i hi => by
          by_cases e : i = k
          · subst e; exact hP
          · exact h1 i (by omega), fun i hi hin => by omega⟩
/-- Of a test that holds from some edge on: of the edges that are counted it does not hold. -/
theorem cnt_lt (l : List Edge) (P : Edge → Bool) (hm : ∀ i j, i ≤ j → j < l.length → P (ed l i) = true → P (ed l j) = true) (i : Nat) (hi : i < cnt l P) : P (ed l i) = false := by
  obtain ⟨k, hk, h1, h2⟩ := exists_cut (fun i => P (ed l i)) l.length hm
  have e := cnt_eq l P k hk h1 h2
  exact h1 i (by omega)
end Sg
/-- The bytes of what lies between two edges. -/
theorem flat_mid (bs : List Rc.Bat) (i j : Nat) (hij : i ≤ j) : (((bs.drop i).take (j - i)).flatMap Rc.bytes).length + ((bs.take i).flatMap Rc.bytes).length = ((bs.take j).flatMap Rc.bytes).length := by
  have e1 : bs.take j = bs.take i ++ (bs.drop i).take (j - i) := by
    conv => lhs; rw [show j = i + (j - i) by omega, List.take_add]
  rw [e1, List.flatMap_append, List.length_append]
  omega
section
variable {d : Dk.St} {s s0 : Sg.St} {room used : Int} {names : Dk.Dir} {x : Nat} {bs : List Rc.Bat}
/-- Beside the first no more than the limit. -/
theorem Md.within (h : Md d s room used names s0 x bs) (most : Int) (k n fin : Nat) (hk : k < bs.length) (hfin : (fin : Int) = max ((k : Int) + 1) (((Sg.cnt s.edges (fun e => decide (most < e.pos - ((Sg.ed s.edges (k + 1)).pos - n)))) : Int) - 1)) (hfl : fin ≤ bs.length) :
    fin = k + 1 ∨ (n : Int) + ((((bs.drop (k + 1)).take (fin - (k + 1))).flatMap Rc.bytes).length : Nat) ≤ most := by
  by_cases h1 : fin = k + 1
  · exact .inl h1
  · refine .inr ?_
    have hlt := Sg.cnt_lt s.edges (fun e => decide (most < e.pos - ((Sg.ed s.edges (k + 1)).pos - n))) (fun i j hij hj hp => by
      have hm : (Sg.ed s.edges i).pos ≤ (Sg.ed s.edges j).pos := by
        have e := h.seg
        subst e
        exact Sg.pos_mono s0 h.one h.zero bs i j hij hj
      have hp' := of_decide_eq_true hp
      exact decide_eq_true (by omega)) fin (by omega)
    have hle := of_decide_eq_false hlt
    have e := h.seg
    subst e
    rw [Sg.ed_pos s0 h.one h.zero bs fin hfl, Sg.ed_pos s0 h.one h.zero bs (k + 1) (by omega)] at hle
    have hf := flat_mid bs (k + 1) fin (by omega)
    omega
end
end Go.Proofs.YtcmgppacipdnaaaGreatDoor
