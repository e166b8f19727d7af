/-
  SegGrows walked.
-/
import Derived.Test.YtfdppggdgdnnaaaGreatDoorZ31
import Derived.Test.YtfdppggdgdnnaaaGreatDoorZ23
import Derived.Test.YtfdppggdgdnnaaaGreatDoorZ32
import Derived.Test.YtfdppggdgdnnaaaGreatDoorZ7
import Derived.Deep.CutBlock
namespace Go.Proofs.YtfdppggdgdnnaaaGreatDoor
open Go.RowKit Go.Maps Go.Sort

set_option maxRecDepth 100000 in
set_option maxHeartbeats 4000000 in
theorem segGrows_any (w : World) (p : Nat → Addr) (hs : SentsG w p) (ht : Tabs w) (hpt : PowTab w) (Az : Option Addr) (cz nz : Nat) (zs : List Int) (ev : Int) (hnz : zs.length = nz) (hz : Ints w Az zs) (hzb : ∀ k, k < zs.length → -9223372036854775808 ≤ zs.getD k 0 ∧ zs.getD k 0 ≤ 9223372036854775807) (hev : -9223372036854775808 ≤ ev ∧ ev ≤ 9223372036854775807) :
    Calls Tryz.prog 8 #[.slice Az nz cz, .int .i64 ev] w fun e w' => e = .returned (.bool true) ∧ Below w.heap.size w w' := by
  have HFI := hide (segFirst_any w p hs ht hpt)
  have HS := hide hs
  have HT := hide ht
  have HPT := hide hpt
  have HZ := hide hz
  have HNZ := hide hnz
  have hltN : num ev 100 < 100 := num_lt ev 100 (by omega)
  obtain ⟨N, hN⟩ : ∃ N, num ev 100 = N := ⟨_, rfl⟩
  rw [hN] at hltN
  have HNN := hide hN
  clear hs ht hpt hz hnz hN
  by_cases lz : 12 < nz
  · go_enter Tryz.func8, Tryz.ntmps8
    go_wp2_with (first
      | (go_at_call 9; refine HFI.out.mono ?_; rintro e w1 ⟨rfl, hb1⟩; have HB1 := hide hb1; clear hb1)
      | (go_at_call 11; refine (num_at ev 100 100 _ rfl (by omega) (by omega) hev.1 hev.2).mono ?_; rintro e wv ⟨rfl, rfl⟩; rw [HNN.out])
      | fail)
    go_ret
    exact ⟨rfl, HB1.out⟩
  obtain ⟨E, hE⟩ : ∃ E : Int, (N : Int) + 1 = E := ⟨_, rfl⟩
  have hE1 : 1 ≤ E ∧ E ≤ 1048576 := by omega
  have HRM := hide hE
  have h00 : (0 : Int) ≤ 0 ∧ (0 : Int) ≤ 1099511627776 := by omega
  have h09 : (0 : Int) ≤ 900 ∧ (900 : Int) ≤ 1099511627776 := by omega
  -- the batches
  have HRW := hide (fun (W : World) (hw : Below w.heap.size w W) => row_any 0 Az cz nz 2 zs W HNZ.out (by omega) (by omega) (by omega) (by omega) (HZ.out.below hw (Nat.le_refl _)) hzb)
  have hok := Rw.go_ok zs 0 0 2 (by omega) (by have := HNZ.out; omega) (by have := HNZ.out; omega)
  have hgd : ∀ b ∈ Rw.go ((0 : Nat) : Int) 0 2 zs, Rc.Good b := fun b hb => (hok b hb).1
  have hsm := Rw.go_small zs ((0 : Nat) : Int) 0 2 hgd
  have hch := Rw.go_chain zs ((0 : Nat) : Int) 0 2 (Sg.begin (Nm.seg 0) 0 E) rfl (by show (0 : Int) ≤ _; omega)
  have hgl := Rw.go_len zs ((0 : Nat) : Int) 0 2
  rw [HNZ.out] at hgl
  have HGL := hide hgl
  have HSM := hide hsm
  have HGD := hide hgd
  have HCH := hide hch
  have HLR : Hid (∀ b ∈ Rw.go ((0 : Nat) : Int) 0 2 zs, b.recs.length ≤ 1000000 ∧ ∀ r ∈ b.recs, r.k.length ≤ 1000000 ∧ r.v.length ≤ 1000000) := hide fun b hb => ⟨by have := (hok b hb).2.1; omega, fun r hr => by have := (hok b hb).2.2 r hr; omega⟩
  clear hok hgd hsm hch hgl hzb
  generalize Rw.go ((0 : Nat) : Int) 0 2 zs = cs at *
  -- the disk
  have HNW := hide (fun (W : World) => new_sessS 1048576 W W (Below.refl _ _) (by omega) (by omega))
  obtain ⟨a1, a2, a3, ea1, ea2, ea3, hda⟩ := (Dk.Has.new 1048576).begin_ (Nm.seg 0) (seg_valid h00) rfl
  have HCA := hide (fun (W0 W : World) (S : Nat → Prop) (Bd : Nat) (hb : Below w.heap.size w W0) (h : SessS S W0 0 Bd (Dk.St.new 1048576) W) => sgCreate_good W0 W S 0 Bd _ 0 E p h (HS.out.below hb) (by omega) h00 hE1 (HPT.out.below hb) a1 a2 a3 ea1 ea2 ea3)
  have HDA := hide hda
  clear ea1 ea2 ea3 hda a1 a2
  have dnz : decide ((12 : Int) < nz) = false := decide_eq_false (by omega)
  go_enter Tryz.func8, Tryz.ntmps8
  go_upto_region 12 with (first
    | (go_at_call 9; refine HFI.out.mono ?_; rintro e w1 ⟨rfl, hb1⟩; have HB1 := hide hb1; clear hb1)
    | (go_at_call 11; refine (num_at ev 100 100 _ rfl (by omega) (by omega) hev.1 hev.2).mono ?_; rintro e wv ⟨rfl, rfl⟩; rw [HNN.out])
    | (go_at_call 12; refine (HRW.out w1 HB1.out).mono ?_; rintro e w2 ⟨⟨A2, c2, rfl, hc2, hm2, hbt2⟩, hb2⟩; have HB2 := hide (HB1.out.trans (hb2.mono HB1.out.size)); have HBT := hide hbt2; clear hbt2 hb2 HRW)
    | (go_at_call 41; refine (HNW.out w2).mono ?_; rintro e w3 ⟨Bd, rfl, hh3, -⟩; have H3 := hide hh3; clear hh3 HNW)
    | (go_at_call 35; refine (HCA.out w2 w3 _ Bd HB2.out H3.out).mono ?_; rintro e w4 ⟨Xa, x, Sa, Ta, -, rfl, hh4, -⟩; have H4 := hide hh4.disk; clear hh4 HCA H3)
    | fail)
  obtain ⟨hha, hba, hoa⟩ := HDA.out x
  obtain ⟨b1, b2, b3, eb1, eb2, eb3, hdb⟩ := hha.begin_ (Nm.seg 900) (seg_valid h09) (by rw [Dk.upd_other _ _ _ _ (fun e => by have := seg_inj h09 h00 e; omega)])
  obtain ⟨-, hxl⟩ := H4.out.named hha (Nm.seg 0) x (Dk.upd_same _ _ _)
  have HCB := hide (sgCreate_good w2 w4 Sa _ Bd _ 900 E p H4.out (HS.out.below HB2.out) (by omega) h09 hE1 (HPT.out.below HB2.out) b1 b2 b3 eb1 eb2 eb3)
  have HDB := hide hdb
  have HFX := hide hba
  clear eb1 eb2 eb3 hdb b1 b2 hha hba hoa HDA
  go_upto_region 16 with (first
    | (go_at_call 35; refine HCB.out.mono ?_; rintro e w5 ⟨Xb, y, Sb, Tb, hxy, rfl, hh5, -, -⟩; have H5 := hide hh5; clear hh5 HCB H4)
    | fail)
  obtain ⟨hhb, hbb, hob⟩ := HDB.out y
  have hyx : y ≠ x := by omega
  have hn0 : Dk.upd (Dk.upd (fun _ => none) (Nm.seg 0) (some x)) (Nm.seg 900) (some y) (Nm.seg 0) = some x := by
    rw [Dk.upd_other _ _ _ _ (fun e => by have := seg_inj h00 h09 e; omega)]
    exact Dk.upd_same _ _ _
  have hmb0 : Mz (b3 y) (Sg.begin (Nm.seg 900) 900 E) 1048576 0 (Dk.upd (Dk.upd (fun _ => none) (Nm.seg 0) (some x)) (Nm.seg 900) (some y)) 900 E y [] := ⟨0, hhb, rfl, rfl, Dk.upd_same _ _ _, hbb, rfl, trivial, fun b hb => (by cases hb)⟩
  have hmx0 : Mz (b3 y) (Sg.begin (Nm.seg 0) 0 E) 1048576 0 (Dk.upd (Dk.upd (fun _ => none) (Nm.seg 0) (some x)) (Nm.seg 900) (some y)) 0 E x [] := ⟨0, hhb, rfl, rfl, hn0, by rw [hob x hyx.symm]; exact HFX.out, rfl, trivial, fun b hb => (by cases hb)⟩
  generalize Dk.upd (Dk.upd (fun _ => none) (Nm.seg 0) (some x)) (Nm.seg 900) (some y) = N2 at *
  have hosm := oth_small
  obtain ⟨dB, heB, hmb1, hoB⟩ := hmb0.add othB oth_good rfl (by omega)
  have hmx1 := hmx0.beside hmb1.has hn0 (by rw [hoB x hyx.symm])
  have hO := Oth.made w5
  have hB6 : Below w5.heap.size w5 ((w5.alloc (.cells #[.int .i64 3, .slice none 0 0, .slice none 0 0] 81)).alloc (.cells #[.int .i64 900, .int .i64 0, .slice (some ⟨w5.heap.size, 0, none⟩) 1 1] 41)) := balloc (balloc (Below.refl _ _) _) _
  generalize (w5.alloc (.cells #[.int .i64 3, .slice none 0 0, .slice none 0 0] 81)).alloc (.cells #[.int .i64 900, .int .i64 0, .slice (some ⟨w5.heap.size, 0, none⟩) 1 1] 41) = w6 at *
  obtain ⟨g, hg⟩ : ∃ g, g = w5.heap.size := ⟨_, rfl⟩
  rw [← hg] at hO ⊢
  have hng : ∀ j, (j = g ∨ j = g + 1) → w2.heap.size ≤ j ∧ ¬ Sb j ∧ ¬ Tb j := fun j hj => by
    have h1 := H5.out.below.size
    refine ⟨by omega, fun h => ?_, fun h => ?_⟩
    · have := (H5.out.disk.lo j h).2; omega
    · have := (H5.out.lo j h).2; omega
  have hlt6 := hO.lt
  have HAB := hide (sgAppend_any w2 w6 Sb Tb _ Bd Xb (b3 y) (Sg.begin (Nm.seg 900) 900 E) p othB (some ⟨g, 0, none⟩) 1 1 (H5.out.grow hB6) (HS.out.below HB2.out) (HT.out.below HB2.out (Nat.le_refl _)) (by omega) (by show 1 ≤ 90000; omega) (by show (0 : Int) ≤ _; omega) (fun W2 hc => (hO.keep hc (fun h => by rcases h with h | h; exact (hng g (.inl rfl)).2.1 h; exact (hng g (.inl rfl)).2.2 h) (fun h => by rcases h with h | h; exact (hng _ (.inr rfl)).2.1 h; exact (hng _ (.inr rfl)).2.2 h)).bat) rfl (fun _ => by omega))
  rw [heB] at HAB
  simp only [errR] at HAB
  unfold batV at HAB
  have HO := hide hO
  have HNG := hide hng
  have x0 : w6.cell? ⟨g + 1, 0, none⟩ = some (.int .i64 900) := box_cell hO.box 0
  have x1 : w6.cell? ⟨g + 1, 1, none⟩ = some (.int .i64 0) := box_cell hO.box 1
  have x2 : w6.cell? ⟨g + 1, 2, none⟩ = some (.slice (some ⟨g, 0, none⟩) 1 1) := box_cell hO.box 2
  have HM1 := hide (And.intro hmb1 hmx1)
  have HYX := hide hyx
  have HB26 := hide (H5.out.below.trans (hB6.mono H5.out.below.size))
  clear hhb hbb hob hn0 hmb0 hmx0 heB hmb1 hoB hmx1 hO hB6 hg hng hyx hxl hxy HDB HFX
  generalize (Sg.begin (Nm.seg 900) 900 E).add othB (Rc.bytes othB).length = sB at *
  have ho9 : othB.base = 900 := rfl
  have hoe : othB.epoch = 0 := rfl
  rw [ho9, hoe] at HAB
  clear ho9 hoe
  go_upto_region 18 with (first
    | (go_at_call 34; refine HAB.out.mono ?_; rintro e w7 ⟨rfl, S7, T7, hh7, hc7, hu7⟩; have H7 : Hid (Gr w2 S7 T7 Bd Xb E N2 x y g 0 dB sB cs w7) := hide ⟨hh7, ⟨_, by omega, HM1.out.1, _, HM1.out.2⟩, HO.out.keep hc7 (fun h => by rcases h with h | h; exact (HNG.out g (.inl rfl)).2.1 h; exact (HNG.out g (.inl rfl)).2.2 h) (fun h => by rcases h with h | h; exact (HNG.out _ (.inr rfl)).2.1 h; exact (HNG.out _ (.inr rfl)).2.2 h), fun j hj => ⟨(HNG.out j hj).1, fun h => (by rcases hu7 j (.inl h) with (h | h) | h; exact (HNG.out j hj).2.1 h; exact (HNG.out j hj).2.2 h; omega), fun h => (by rcases hu7 j (.inr h) with (h | h) | h; exact (HNG.out j hj).2.1 h; exact (HNG.out j hj).2.2 h; omega)⟩⟩; clear hh7 hc7 hu7 HAB)
    | fail)
  clear x0 x1 x2 HO HNG HM1 H5
  go_wp2_with fail
  go_loopw [14] (fun iv wr => ∃ (k : Nat) (S : Nat → Prop) (d : Dk.St), k ≤ nz ∧ iv = .int .i64 k ∧ Gr w2 S T7 Bd Xb E N2 x y g k d sB cs wr) (fun iv _ => nz - (intOf iv).toNat)
  case atStart => exact ⟨0, _, _, Nat.zero_le _, rfl, H7.out⟩
  case round =>
    obtain ⟨k, S, d, hk, rfl, hgr⟩ := hrel
    have HG := hide hgr
    clear hgr H7
    obtain ⟨used, hus, hmb, sX, hmx⟩ := HG.out.mb
    have htl : (cs.take k).length = k := by rw [List.length_take, HGL.out]; omega
    have hfl := flat_len_le Rc.bytes 300 (cs.take k) (fun b hb => HSM.out b (List.mem_of_mem_take hb))
    rw [htl] at hfl
    obtain ⟨d3, s3, hmx3, hbx3, hot3, -, hop⟩ := sgOpen_mz w2 wr S _ Bd d 0 E p HG.out.sg.disk (HS.out.below HB2.out) (by omega) h00 hE1 (HT.out.below HB2.out (Nat.le_refl _)) (HPT.out.below HB2.out) hmx (by omega)
    have hmb3 := hmb.beside hmx3.has hmb.nm (by rw [hot3 y HYX.out])
    have HOP := hide hop
    have HMX := hide hmx3
    have HMB := hide hmb3
    have HFL := hide hfl
    have HTL := hide htl
    clear hmb hmx hmx3 hbx3 hot3 hop hmb3 hfl htl
    by_cases hlt : k < nz
    · have hkl : k < cs.length := by rw [HGL.out]; exact hlt
      obtain ⟨bj, oj, rfl, hbl, Ax, cx, q0, q1, q2, hib⟩ := HBT.out.at_ k hkl
      have hfo := chain_next HCH.out k hkl
      rw [← HMX.out.edges] at hfo
      have hgk := HGD.out cs[k] (List.getElem_mem hkl)
      have hlk := HSM.out cs[k] (List.getElem_mem hkl)
      obtain ⟨d4, he4, hmx4, hot4⟩ := HMX.out.add cs[k] hgk hfo (by omega)
      have hmb4 := HMB.out.beside hmx4.has HMB.out.nm (by rw [hot4 y HYX.out])
      have hbe : cs[k].base = (Sg.last s3.edges).off := by
        unfold Sg.follows at hfo
        rw [Bool.and_eq_true] at hfo
        exact of_decide_eq_true hfo.1
      have htk : cs.take (k + 1) = cs.take k ++ [cs[k]] := List.take_succ_eq_append_getElem hkl
      rw [← htk] at hmx4
      have HMX4 := hide hmx4
      have HMB4 := hide hmb4
      have HAP := hide (fun (S9 T9 : Nat → Prop) (X : Nat) (W : World) (h : SgW w2 S9 T9 (3 * k + 7 + 2) Bd d3 X s3 W) => sgAppend_any w2 W S9 T9 _ Bd X d3 s3 p cs[k] Ax cx cs[k].recs.length h (HS.out.below HB2.out) (HT.out.below HB2.out (Nat.le_refl _)) (by omega) (by rw [HMX.out.len, HTL.out]; omega) (by rw [HMX.out.pos]; have := HFL.out; omega) (fun W2 hc => hib.below (h.cellW hc) (Nat.le_refl _)) rfl (fun _ => by omega))
      rw [he4] at HAP
      simp only [errR] at HAP
      have HEN := hide (fun (X : Nat) (T9 : Nat → Prop) (W : World) (h : SegAt W X Bd s3 T9) (ho : Sg.Ok s3) => sgEnd_any X Bd s3 T9 W h ho)
      rw [← hbe] at HEN
      have HL4 := hide hlk
      clear hfo hgk hlk he4 hmx4 hot4 hmb4 hbe htk
      generalize s3.add cs[k] (Rc.bytes cs[k]).length = s4 at *
      generalize (Rc.bytes cs[k]).length = L at *
      unfold batV at HAP
      generalize cs[k].base = ba at *
      generalize cs[k].epoch = ep at *
      generalize cs[k].recs.length = nr at *
      have dkn : decide (k < nz) = true := decide_eq_true hlt
      go_upto_region 22 with (first
        | (go_at_call 40; refine HOP.out.mono ?_; rintro e w9 ⟨X, S9, T9, rfl, hh9, hc9, hu9⟩; have H9 := hide hh9; have HC9 := hide hc9; have HU9 := hide hu9; clear hh9 hc9 hu9 HOP)
        | fail)
      have HB29 := hide H9.out.below
      have u0 := (HB29.out.cell (p := ⟨bj, oj + k * 3, none⟩) hbl).trans q0
      have u1 := (HB29.out.cell (p := ⟨bj, oj + k * 3 + 1, none⟩) hbl).trans q1
      have u2 := (HB29.out.cell (p := ⟨bj, oj + k * 3 + 2, none⟩) hbl).trans q2
      have hbl9 : bj < w9.heap.size := Nat.lt_of_lt_of_le hbl HB29.out.size
      clear q0 q1 q2 hib
      refine wp_region_V (G0 := fun a b : World => Below a.heap.size a b) (G1 := fun a b : World => Below a.heap.size a b) (J := fun W => SgPost w2 S9 T9 (3 * k + 7 + 2 + 1) Bd d4 X s4 w9 W) ⟨fun w => Below.refl _ w, fun h k => h.trans (k.mono h.size)⟩ (fun _ _ h hb => h.grow hb) 26 [98, 99, 100, 101, 102, 103, 104, 105, 106, 107, 108, 109, 110, 111, 112, 113, 114, 115, 116, 117, 118, 119, 120, 121, 122, 123, 124, 125, 126] [98, 99, 100, 101, 102, 103, 104, 105, 106, 107, 108, 109, 110, 111, 112, 113, 114, 115, 116, 117, 118, 119, 120, 121, 122, 123, 124, 125, 126] [0, 1, 2, 3, 4, 5, 6, 7, 8, 9, 10, 11, 12, 13, 14, 15, 16, 17, 18, 19, 20, 21, 22, 23, 24, 25] [27, 28] (fun d => .is (match d with | 98 => .pointer (some ⟨X, 0, none⟩) | 99 => .bool false | 100 => .bool false | 101 => .int .i64 0 | 102 => .bool false | 103 => .bool false | 104 => .bool false | 105 => .nilIface | 106 => .bool false | 107 => .bool false | 108 => .bool false | 109 => .pointer (some ⟨X, 0, none⟩) | 110 => .int .i64 ba | 111 => .slice (some ⟨bj, oj, none⟩) nz c2 | 112 => .int .i64 k | 113 => .pointer (some ⟨bj, oj + k * 3, none⟩) | 114 => .pointer (some ⟨bj, oj + k * 3, none⟩) | 115 => .int .i64 ba | 116 => .bool false | 117 => .bool false | 118 => .bool false | 119 => .pointer (some ⟨X, 0, none⟩) | 120 => .slice (some ⟨bj, oj, none⟩) nz c2 | 121 => .int .i64 k | 122 => .pointer (some ⟨bj, oj + k * 3, none⟩) | 123 => .agg #[.int .i64 ba, .int .i64 ep, .slice Ax nr cx] | 124 => .nilIface | 125 => .bool false | 126 => .bool false | _ => undef)) (fun d => .is (match d with | 98 => .pointer (some ⟨X, 0, none⟩) | 99 => .bool false | 100 => .bool false | 101 => .int .i64 0 | 102 => .bool false | 103 => .bool false | 104 => .bool false | 105 => .nilIface | 106 => .bool false | 107 => .bool false | 108 => .bool false | 109 => .pointer (some ⟨X, 0, none⟩) | 110 => .int .i64 ba | 111 => .slice (some ⟨bj, oj, none⟩) nz c2 | 112 => .int .i64 k | 113 => .pointer (some ⟨bj, oj + k * 3, none⟩) | 114 => .pointer (some ⟨bj, oj + k * 3, none⟩) | 115 => .int .i64 ba | 116 => .bool false | 117 => .bool false | 118 => .bool false | 119 => .pointer (some ⟨X, 0, none⟩) | 120 => .slice (some ⟨bj, oj, none⟩) nz c2 | 121 => .int .i64 k | 122 => .pointer (some ⟨bj, oj + k * 3, none⟩) | 123 => .agg #[.int .i64 ba, .int .i64 ep, .slice Ax nr cx] | 124 => .nilIface | 125 => .bool false | 126 => .bool false | _ => undef)) (by kernel_rfl) (by kernel_rfl) (by kernel_rfl) (.inl rfl) ?_ ?_
      · simp only [StepsV]
        refine ⟨?_, ?_, ?_, ?_, ?_, ?_, ?_, ?_, ?_, ?_, ?_, ?_, ?_, ?_, ?_, ?_, ?_, ?_, ?_, ?_, ?_, ?_, ?_, ?_, ?_, ?_, ?_, ?_, ?_, trivial⟩
        all_goals first | rw [if_pos (by decide)] | (rw [if_neg (by decide)]; first | rw [if_pos (by decide)] | (rw [if_neg (by decide)]; rw [if_pos (by decide)]))
        all_goals
          intro ev wb hb hev hd
          have ev15 : ev (.tmp 15) = .pointer (some ⟨X, 0, none⟩) := hev _ (by simp)
          have ev16 : ev (.tmp 16) = .int .i64 0 := hev _ (by simp)
          have ev17 : ev (.tmp 17) = .nilIface := hev _ (by simp)
          have ev6 : ev (.tmp 6) = .slice (some ⟨bj, oj, none⟩) nz c2 := hev _ (by simp)
          have ev14 : ev (.tmp 14) = .int .i64 k := hev _ (by simp)
          have evf : ∀ f, ev (.func f) = .func (.func f) #[] #[] := fun f => hev _ (by simp)
          have evc : ∀ c, ev (.const c) = c := fun c => hev _ (by simp)
          simp [DepsV, Held.is] at hd
          clear hev
          try
            have HBb : Hid (Below w9.heap.size w9 wb) := hide ((Below.refl _ _).drew.trans hb)
            have v0 := (HBb.out.cell (p := ⟨bj, oj + k * 3, none⟩) hbl9).trans u0
            have v1 := (HBb.out.cell (p := ⟨bj, oj + k * 3 + 1, none⟩) hbl9).trans u1
            have v2 := (HBb.out.cell (p := ⟨bj, oj + k * 3 + 2, none⟩) hbl9).trans u2
          clear hb
          try (simp [OpGuardU, undef, OpRuns, execOp, go_sem, Held.is, Below.refl, *]; done)
        · simp [OpGuardU, undef, OpRuns, execOp, go_sem, Held.is, Below.refl, *]
          exact HEN.out X T9 wb (H9.out.seg.below HBb.out) H9.out.ok
        · simp [OpGuardU, undef, OpRuns, execOp, go_sem, Held.is, *]
          exact (HAP.out S9 T9 X wb (H9.out.grow HBb.out)).mono fun e w'' ⟨he, hp⟩ => ⟨he, SgPost.ahead HBb.out hp⟩
      · intro f wd hJ hf
        have e126 : f 126 = .bool false := hf 126 (by simp)
        obtain ⟨S10, T10, h10, hc10, hu10⟩ := hJ
        have hc : Chg S wr wd := HC9.out.trans hc10 (fun i hi ht => by
          rcases HU9.out i ht with h | h
          · exact h
          · omega)
        have hz9 := HC9.out.size
        have hzd := hc10.size
        have hu : ∀ j, (S10 j ∨ T10 j) → Up S wr wd j := fun j hj => by
          rcases hu10 j hj with h | h
          · rcases HU9.out j h with h2 | h2
            · exact .inl h2
            · exact .inr (by omega)
          · exact .inr (by omega)
        have hsg := (HG.out.sg.beside h10 hc hu).mono (show 3 * k + 7 + 2 + 1 ≤ 3 * (k + 1) + 7 by omega)
        have H10 : Hid (Gr w2 S10 T7 Bd Xb E N2 x y g (k + 1) d4 sB cs wd) := hide ⟨hsg, ⟨_, by have := HL4.out; omega, HMB4.out, s4, HMX4.out⟩, HG.out.oth.keep hc (HG.out.ng g (.inl rfl)).2.1 (HG.out.ng _ (.inr rfl)).2.1, fun j hj => ⟨(HG.out.ng j hj).1, fun h => (by
          rcases hu j (.inl h) with h2 | h2
          · exact (HG.out.ng j hj).2.1 h2
          · have := HG.out.oth.lt; omega), (HG.out.ng j hj).2.2⟩⟩
        clear hf h10 hc10 hu10 hc hz9 hzd hu hsg
        simp only [puts, Act.put, List.setIfInBounds_toArray, List.set_cons_succ, List.set_cons_zero]
        rw [e126]
        clear e126
        generalize f 98 = z98
        generalize f 99 = z99
        generalize f 100 = z100
        generalize f 101 = z101
        generalize f 102 = z102
        generalize f 103 = z103
        generalize f 104 = z104
        generalize f 105 = z105
        generalize f 106 = z106
        generalize f 107 = z107
        generalize f 108 = z108
        generalize f 109 = z109
        generalize f 110 = z110
        generalize f 111 = z111
        generalize f 112 = z112
        generalize f 113 = z113
        generalize f 114 = z114
        generalize f 115 = z115
        generalize f 116 = z116
        generalize f 117 = z117
        generalize f 118 = z118
        generalize f 119 = z119
        generalize f 120 = z120
        generalize f 121 = z121
        generalize f 122 = z122
        generalize f 123 = z123
        generalize f 124 = z124
        generalize f 125 = z125
        clear f
        go_wp2_with fail
        go_roundw
        case rel => exact ⟨k + 1, S10, d4, by omega, by go_num, H10.out⟩
        case measure => simp [intOf]; omega
    · obtain rfl : k = nz := by omega
      have htk : cs.take k = cs := List.take_of_length_le (by rw [HGL.out]; exact Nat.le_refl _)
      rw [htk] at HMX HFL
      clear htk
      go_upto_region 28 with (first
        | (go_at_call 40; refine HOP.out.mono ?_; rintro e w9 ⟨X, S9, T9, rfl, hh9, hc9, hu9⟩; have H9 := hide hh9; have HGB := hide (HG.out.sg.beside hh9 hc9 hu9); have HO9 := hide (HG.out.oth.keep hc9 (HG.out.ng g (.inl rfl)).2.1 (HG.out.ng _ (.inr rfl)).2.1); clear hh9 hc9 hu9 HOP)
        | fail)
      have HRB := hide (fun (W : World) (hw : Below w9.heap.size w9 W) => sgRead_mz w2 W _ T7 _ Bd Xb d3 sB p (HGB.out.grow hw) (HS.out.below HB2.out) (HT.out.below HB2.out (Nat.le_refl _)) (by omega) HMB.out (by have := oth_small; simp; omega) 0 0 (by decide))
      have ho9 : [othB][0].base = 900 := rfl
      simp only [ho9] at HRB
      clear ho9
      by_cases h0 : k = 0
      · subst h0
        have hc0 : cs = [] := List.eq_nil_of_length_eq_zero HGL.out
        have d0 : decide ((0 : Int) < ((0 : Nat) : Int)) = false := by decide
        go_upto_region 34 with (first
          | (go_at_call 28; obtain ⟨fb, hb1, hb2, -, hrb⟩ := HRB.out w9 (Below.refl _ _); refine hrb.mono ?_; rintro e w11 ⟨v11, qs11, rfl, hr11, hq11, hb11⟩; have HR11 := hide hr11; have HB11 := hide hb11; have HQ11 : Hid (qs11.map (·.b) = [othB]) := hide (by rw [hq11]; have : fb = 1 := (by simp at hb2; omega); subst this; rfl); clear hr11 hq11 hb11 hrb HRB)
          | fail)
        have HW11 := hide (HGB.out.below.trans (HB11.out.mono HGB.out.below.size))
        obtain ⟨A11, c11, rfl, hc11, hm11, hbt11⟩ := HR11.out.val
        have hl11 : qs11.length = 1 := by have := congrArg List.length HQ11.out; simpa using this
        rw [hl11] at hc11 ⊢
        have hr11 := HR11.out
        rw [hl11] at hr11
        obtain ⟨br, Ar, cr2, rfl, hbr, r0, r1, r2, hna⟩ := hr11.one HQ11.out
        have HIR := hide (fun (W : World) (hw : Below w11.heap.size w11 W) => (show IsBat W Ar cr2 othB from by
          obtain ⟨l0, wk, -, g2, g3⟩ := hna.grow hw
          exact g2 W g3))
        have HOO := hide (HO9.out.keep (S := fun _ => False) (Chg.of_below HB11.out) (fun h => h) (fun h => h))
        have HSB := hide (fun (W : World) (hw : Below w11.heap.size w11 W) => sameBatches_eq none A2 0 c2 0 cs W HGL.out (by omega) (.inl hc0) ((HBT.out.below HW11.out (Nat.le_refl _)).below hw (Nat.le_refl _)) HLR.out)
        have HSO := hide (fun (W : World) (hw : Below w11.heap.size w11 W) => sameBatch_eq othB Ar (some ⟨g, 0, none⟩) cr2 1 1 W rfl (by omega) (HIR.out W hw).recs (HOO.out.keep (S := fun _ => False) (Chg.of_below hw) (fun h => h) (fun h => h)).bat.recs (fun r hr => by
          simp only [othB, List.mem_singleton] at hr
          subst hr
          exact ⟨by decide, by decide⟩))
        have t0 : w11.cell? ⟨g + 1, 0, none⟩ = some (.int .i64 900) := box_cell HOO.out.box 0
        have t1 : w11.cell? ⟨g + 1, 1, none⟩ = some (.int .i64 0) := box_cell HOO.out.box 1
        have t2 : w11.cell? ⟨g + 1, 2, none⟩ = some (.slice (some ⟨g, 0, none⟩) 1 1) := box_cell HOO.out.box 2
        have hgl := HOO.out.lt
        have ho9 : othB.base = 900 := rfl
        have hoe : othB.epoch = 0 := rfl
        have hol : othB.recs.length = 1 := rfl
        rw [ho9] at r0
        rw [hoe] at r1
        rw [hol] at r2
        unfold batV at HSO
        rw [ho9, hoe] at HSO
        clear ho9 hoe hol hna hbt11 hr11 HR11 HQ11
        refine wp_region_guardU (G := fun a b : World => Below a.heap.size a b) ⟨fun w => Below.refl _ w, fun h k => h.trans (k.mono h.size)⟩ [156, 157, 158, 159, 160, 161, 162, 163, 164, 165, 166, 167, 168, 169, 170, 171, 172, 173, 174, 4] (fun d => match d with | 156 => .is (.slice none 0 0) | 157 => .is (.slice A2 0 c2) | 158 => .is (.bool true) | 159 => .is (.bool true) | 160 => .is (.nilIface) | 161 => .is (.bool true) | 162 => .is (.bool true) | 163 => .is (.bool true) | 164 => .is (.slice (some ⟨br, 0, none⟩) 1 c11) | 165 => .is (.int .i64 1) | 166 => .is (.bool true) | 167 => .is (.bool true) | 168 => .is (.bool true) | 169 => .is (.slice (some ⟨br, 0, none⟩) 1 c11) | 170 => .is (.pointer (some ⟨br, 0, none⟩)) | 171 => .is (.agg #[.int .i64 900, .int .i64 0, .slice Ar 1 cr2]) | 172 => .is (.agg #[.int .i64 900, .int .i64 0, .slice (some ⟨g, 0, none⟩) 1 1]) | 173 => .is (.bool true) | 174 => .is (.bool true) | 4 => .is (.bool true) | _ => .is undef) (by kernel_rfl) (by kernel_rfl) (by kernel_rfl) ?_ ?_
        · simp only [StepsGU]
          refine ⟨?_, ?_, ?_, ?_, ?_, ?_, ?_, ?_, ?_, ?_, ?_, ?_, ?_, ?_, ?_, ?_, ?_, ?_, ?_, ?_, trivial⟩
          all_goals
            intro ev wb hb hev hd
            have ev21 : ev (.tmp 21) = .slice none 0 0 := hev _ (by simp)
            have ev6 : ev (.tmp 6) = .slice A2 0 c2 := hev _ (by simp)
            have ev25 : ev (.tmp 25) = .nilIface := hev _ (by simp)
            have ev24 : ev (.tmp 24) = .slice (some ⟨br, 0, none⟩) 1 c11 := hev _ (by simp)
            have ev13 : ev (.tmp 13) = .pointer (some ⟨g + 1, 0, none⟩) := hev _ (by simp)
            have evf : ∀ f, ev (.func f) = .func (.func f) #[] #[] := fun f => hev _ (by simp)
            have evc : ∀ c, ev (.const c) = c := fun c => hev _ (by simp)
            have HBb := hide (show Below w11.heap.size w11 wb from (Below.refl _ _).drew.trans hb)
            have v0 := (HBb.out.cell (p := ⟨br, 0, none⟩) hbr).trans r0
            have v1 := (HBb.out.cell (p := ⟨br, 1, none⟩) hbr).trans r1
            have v2 := (HBb.out.cell (p := ⟨br, 2, none⟩) hbr).trans r2
            have y0 := (HBb.out.cell (p := ⟨g + 1, 0, none⟩) hgl).trans t0
            have y1 := (HBb.out.cell (p := ⟨g + 1, 1, none⟩) hgl).trans t1
            have y2 := (HBb.out.cell (p := ⟨g + 1, 2, none⟩) hgl).trans t2
            clear hev hb
            simp [DepsG, Held.is] at hd
            try (simp [OpGuardU, undef, OpRuns, execOp, go_sem, Held.is, Below.refl, *]; done)
          · simp [OpGuardU, OpRuns, execOp, go_sem, Held.is, *]
            exact HSB.out wb HBb.out
          · simp [OpGuardU, undef, OpRuns, execOp, go_sem, Held.is, Below.refl, *]
            exact HSO.out wb HBb.out
        · intro f wd hb hf
          have e4 : f 4 = .bool true := hf 4 (by simp)
          have HBd := hide (show Below w11.heap.size w11 wd from (Below.refl _ _).drew.trans hb)
          clear hf hb
          simp only [puts, Act.put, List.setIfInBounds_toArray, List.set_cons_succ, List.set_cons_zero]
          rw [e4]
          clear e4
          generalize f 156 = z156
          generalize f 157 = z157
          generalize f 158 = z158
          generalize f 159 = z159
          generalize f 160 = z160
          generalize f 161 = z161
          generalize f 162 = z162
          generalize f 163 = z163
          generalize f 164 = z164
          generalize f 165 = z165
          generalize f 166 = z166
          generalize f 167 = z167
          generalize f 168 = z168
          generalize f 169 = z169
          generalize f 170 = z170
          generalize f 171 = z171
          generalize f 172 = z172
          generalize f 173 = z173
          generalize f 174 = z174
          clear f
          go_wp2_with fail
          go_ret
          exact ⟨rfl, HB2.out.trans ((HW11.out.trans (HBd.out.mono HW11.out.size)).mono HB2.out.size)⟩
      · have hk0 : 0 < cs.length := by rw [HGL.out]; omega
        have hfl := HFL.out
        obtain ⟨fx, hx1, hx2, hx3, hrx⟩ := sgRead_mz w2 w9 S9 T9 _ Bd X d3 s3 p H9.out (HS.out.below HB2.out) (HT.out.below HB2.out (Nat.le_refl _)) (by omega) HMX.out (by omega) 1048576 0 hk0
        have hbe : cs[0].base = 0 := by
          have hfo := chain_next HCH.out 0 hk0
          unfold Sg.follows at hfo
          rw [Bool.and_eq_true] at hfo
          exact of_decide_eq_true hfo.1
        have hfx : fx = cs.length := hx3 (by omega)
        rw [hbe, hfx, Nat.sub_zero, List.drop_zero, List.take_length] at hrx
        have HRX := hide hrx
        clear hx1 hx2 hx3 hrx hbe hfx hfl
        have d0 : decide ((0 : Int) < (k : Int)) = true := decide_eq_true (by omega)
        have d0n : decide (0 < k) = true := decide_eq_true (by omega)
        go_upto_region 33 with (first
          | (go_at_call 28; refine HRX.out.mono ?_; rintro e w10 ⟨v10, qs10, rfl, hr10, hq10, hb10⟩; have HR10 := hide hr10; have HQ10 := hide hq10; have HB10 := hide hb10; clear hr10 hq10 hb10 HRX)
          | fail)
        obtain ⟨Aa, ca, rfl, hca, hma, hba⟩ := HR10.out.val
        have hla : qs10.length = k := by have := congrArg List.length HQ10.out; rw [List.length_map, HGL.out] at this; exact this
        rw [hla] at hca ⊢
        rw [HQ10.out] at hba
        have HBA := hide hba
        clear hba HR10 HQ10 hla
        go_upto_region 34 with (first
          | (go_at_call 28; obtain ⟨fb, hb1, hb2, -, hrb⟩ := HRB.out w10 HB10.out; refine hrb.mono ?_; rintro e w11 ⟨v11, qs11, rfl, hr11, hq11, hb11⟩; have HR11 := hide hr11; have HB11 := hide (HB10.out.trans (hb11.mono HB10.out.size)); have HBA11 := hide (HBA.out.below hb11 (Nat.le_refl _)); have HQ11 : Hid (qs11.map (·.b) = [othB]) := hide (by rw [hq11]; have : fb = 1 := (by simp at hb2; omega); subst this; rfl); clear hr11 hq11 hb11 hrb HRB)
          | fail)
        have HW11 := hide (HGB.out.below.trans (HB11.out.mono HGB.out.below.size))
        obtain ⟨A11, c11, rfl, hc11, hm11, hbt11⟩ := HR11.out.val
        have hl11 : qs11.length = 1 := by have := congrArg List.length HQ11.out; simpa using this
        rw [hl11] at hc11 ⊢
        have hr11 := HR11.out
        rw [hl11] at hr11
        obtain ⟨br, Ar, cr2, rfl, hbr, r0, r1, r2, hna⟩ := hr11.one HQ11.out
        have HIR := hide (fun (W : World) (hw : Below w11.heap.size w11 W) => (show IsBat W Ar cr2 othB from by
          obtain ⟨l0, wk, -, g2, g3⟩ := hna.grow hw
          exact g2 W g3))
        have HOO := hide (HO9.out.keep (S := fun _ => False) (Chg.of_below HB11.out) (fun h => h) (fun h => h))
        have HSB := hide (fun (W : World) (hw : Below w11.heap.size w11 W) => sameBatches_eq Aa A2 ca c2 k cs W HGL.out (by omega) (HBA11.out.below hw (Nat.le_refl _)) ((HBT.out.below HW11.out (Nat.le_refl _)).below hw (Nat.le_refl _)) HLR.out)
        have HSO := hide (fun (W : World) (hw : Below w11.heap.size w11 W) => sameBatch_eq othB Ar (some ⟨g, 0, none⟩) cr2 1 1 W rfl (by omega) (HIR.out W hw).recs (HOO.out.keep (S := fun _ => False) (Chg.of_below hw) (fun h => h) (fun h => h)).bat.recs (fun r hr => by
          simp only [othB, List.mem_singleton] at hr
          subst hr
          exact ⟨by decide, by decide⟩))
        have t0 : w11.cell? ⟨g + 1, 0, none⟩ = some (.int .i64 900) := box_cell HOO.out.box 0
        have t1 : w11.cell? ⟨g + 1, 1, none⟩ = some (.int .i64 0) := box_cell HOO.out.box 1
        have t2 : w11.cell? ⟨g + 1, 2, none⟩ = some (.slice (some ⟨g, 0, none⟩) 1 1) := box_cell HOO.out.box 2
        have hgl := HOO.out.lt
        have ho9 : othB.base = 900 := rfl
        have hoe : othB.epoch = 0 := rfl
        have hol : othB.recs.length = 1 := rfl
        rw [ho9] at r0
        rw [hoe] at r1
        rw [hol] at r2
        unfold batV at HSO
        rw [ho9, hoe] at HSO
        clear ho9 hoe hol hna hbt11 hr11 HR11 HQ11
        refine wp_region_guardU (G := fun a b : World => Below a.heap.size a b) ⟨fun w => Below.refl _ w, fun h k => h.trans (k.mono h.size)⟩ [156, 157, 158, 159, 160, 161, 162, 163, 164, 165, 166, 167, 168, 169, 170, 171, 172, 173, 174, 4] (fun d => match d with | 156 => .is (.slice Aa k ca) | 157 => .is (.slice A2 k c2) | 158 => .is (.bool true) | 159 => .is (.bool true) | 160 => .is (.nilIface) | 161 => .is (.bool true) | 162 => .is (.bool true) | 163 => .is (.bool true) | 164 => .is (.slice (some ⟨br, 0, none⟩) 1 c11) | 165 => .is (.int .i64 1) | 166 => .is (.bool true) | 167 => .is (.bool true) | 168 => .is (.bool true) | 169 => .is (.slice (some ⟨br, 0, none⟩) 1 c11) | 170 => .is (.pointer (some ⟨br, 0, none⟩)) | 171 => .is (.agg #[.int .i64 900, .int .i64 0, .slice Ar 1 cr2]) | 172 => .is (.agg #[.int .i64 900, .int .i64 0, .slice (some ⟨g, 0, none⟩) 1 1]) | 173 => .is (.bool true) | 174 => .is (.bool true) | 4 => .is (.bool true) | _ => .is undef) (by kernel_rfl) (by kernel_rfl) (by kernel_rfl) ?_ ?_
        · simp only [StepsGU]
          refine ⟨?_, ?_, ?_, ?_, ?_, ?_, ?_, ?_, ?_, ?_, ?_, ?_, ?_, ?_, ?_, ?_, ?_, ?_, ?_, ?_, trivial⟩
          all_goals
            intro ev wb hb hev hd
            have ev21 : ev (.tmp 21) = .slice Aa k ca := hev _ (by simp)
            have ev6 : ev (.tmp 6) = .slice A2 k c2 := hev _ (by simp)
            have ev25 : ev (.tmp 25) = .nilIface := hev _ (by simp)
            have ev24 : ev (.tmp 24) = .slice (some ⟨br, 0, none⟩) 1 c11 := hev _ (by simp)
            have ev13 : ev (.tmp 13) = .pointer (some ⟨g + 1, 0, none⟩) := hev _ (by simp)
            have evf : ∀ f, ev (.func f) = .func (.func f) #[] #[] := fun f => hev _ (by simp)
            have evc : ∀ c, ev (.const c) = c := fun c => hev _ (by simp)
            have HBb := hide (show Below w11.heap.size w11 wb from (Below.refl _ _).drew.trans hb)
            have v0 := (HBb.out.cell (p := ⟨br, 0, none⟩) hbr).trans r0
            have v1 := (HBb.out.cell (p := ⟨br, 1, none⟩) hbr).trans r1
            have v2 := (HBb.out.cell (p := ⟨br, 2, none⟩) hbr).trans r2
            have y0 := (HBb.out.cell (p := ⟨g + 1, 0, none⟩) hgl).trans t0
            have y1 := (HBb.out.cell (p := ⟨g + 1, 1, none⟩) hgl).trans t1
            have y2 := (HBb.out.cell (p := ⟨g + 1, 2, none⟩) hgl).trans t2
            clear hev hb
            simp [DepsG, Held.is] at hd
            try (simp [OpGuardU, undef, OpRuns, execOp, go_sem, Held.is, Below.refl, *]; done)
          · simp [OpGuardU, OpRuns, execOp, go_sem, Held.is, *]
            exact HSB.out wb HBb.out
          · simp [OpGuardU, undef, OpRuns, execOp, go_sem, Held.is, Below.refl, *]
            exact HSO.out wb HBb.out
        · intro f wd hb hf
          have e4 : f 4 = .bool true := hf 4 (by simp)
          have HBd := hide (show Below w11.heap.size w11 wd from (Below.refl _ _).drew.trans hb)
          clear hf hb
          simp only [puts, Act.put, List.setIfInBounds_toArray, List.set_cons_succ, List.set_cons_zero]
          rw [e4]
          clear e4
          generalize f 156 = z156
          generalize f 157 = z157
          generalize f 158 = z158
          generalize f 159 = z159
          generalize f 160 = z160
          generalize f 161 = z161
          generalize f 162 = z162
          generalize f 163 = z163
          generalize f 164 = z164
          generalize f 165 = z165
          generalize f 166 = z166
          generalize f 167 = z167
          generalize f 168 = z168
          generalize f 169 = z169
          generalize f 170 = z170
          generalize f 171 = z171
          generalize f 172 = z172
          generalize f 173 = z173
          generalize f 174 = z174
          clear f
          go_wp2_with fail
          go_ret
          exact ⟨rfl, HB2.out.trans ((HW11.out.trans (HBd.out.mono HW11.out.size)).mono HB2.out.size)⟩
end Go.Proofs.YtfdppggdgdnnaaaGreatDoor
