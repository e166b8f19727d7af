/-
  SegReads, walked: a segment of any row of batches has them, from any offset on, by any limit; its bytes, its end, its size, its greatest time, its marks.
-/
import Derived.Test.YtfdppggdgdnnaaaGreatDoorZ47
import Derived.Test.YtfdppggdgdnnaaaGreatDoorZ48
import Derived.Test.YtfdppggdgdnnaaaGreatDoorY24
import Derived.Test.YtfdppggdgdnnaaaGreatDoorZ21
import Derived.Test.YtfdppggdgdnnaaaGreatDoorZ32
import Derived.Test.YtfdppggdgdnnaaaGreatDoorZ1
import Derived.Deep.CutBlock
namespace Go.Proofs.YtfdppggdgdnnaaaGreatDoor
open Go.RowKit Go.Maps Go.Sort

theorem own_rd {w : World} {lo : Nat} {A : Option Addr} {n c : Nat} {l : List UInt8} (h : Own w lo (.slice A n c) l) : Reads w A l := by
  obtain ⟨A', c', e, hr, -⟩ := h.reads
  injection e with e1 e2 e3
  subst e1
  exact hr

set_option maxRecDepth 100000 in
set_option maxHeartbeats 8000000 in
theorem segReads_any (w : World) (p : Nat → Addr) (ha : Sents w p) (ht : Tabs w) (hpt : PowTab w) (h4 : 4 ≤ w.heap.size) (b_ : Int) (Az : Option Addr) (cz nz : Nat) (zs : List Int) (ev_ st_ of_ most : Int) (hnz : zs.length = nz) (hz : Ints w Az zs) (hzb : ∀ k, k < zs.length → -9223372036854775808 ≤ zs.getD k 0 ∧ zs.getD k 0 ≤ 9223372036854775807)
    (hb_ : -9223372036854775808 ≤ b_ ∧ b_ ≤ 9223372036854775807) (he_ : -9223372036854775808 ≤ ev_ ∧ ev_ ≤ 9223372036854775807) (hst_ : -9223372036854775808 ≤ st_ ∧ st_ ≤ 9223372036854775807) (hof_ : -9223372036854775808 ≤ of_ ∧ of_ ≤ 9223372036854775807) (hmo_ : -9223372036854775808 ≤ most ∧ most ≤ 9223372036854775807) :
    Calls Tryz.prog 3 #[.int .i64 b_, .slice Az nz cz, .int .i64 ev_, .int .i64 st_, .int .i64 of_, .int .i64 most] w fun e w' => e = .returned (.bool true) ∧ Below w.heap.size w w' := by
  have hs : SentsG w p := ha.mono fun j hj => by omega
  have HFI := hide (segFirst_any w p hs ht hpt)
  have HSA := hide ha
  have HS := hide hs
  have HT := hide ht
  have HPT := hide hpt
  have HZ := hide hz
  have HNZ := hide hnz
  have H4 := hide h4
  clear ha hs ht hpt hz hnz h4
  have HLB := hide (fun (W : World) => long_any b_ 1073741824 W (by omega) (by omega) hb_.1 hb_.2)
  have m1 := Int.emod_nonneg b_ (show (1073741824 : Int) ≠ 0 by omega)
  have m2 := Int.emod_lt_of_pos b_ (show (0 : Int) < 1073741824 by omega)
  obtain ⟨B, hB⟩ : ∃ B : Nat, b_ % 1073741824 = (B : Int) := ⟨(b_ % 1073741824).toNat, by omega⟩
  rw [hB] at HLB m1 m2
  have hst := num_lt st_ 300 (by omega)
  obtain ⟨ST, hST⟩ : ∃ N, num st_ 300 = N := ⟨_, rfl⟩
  rw [hST] at hst
  have HST := hide hST
  have hev := num_lt ev_ 4 (by omega)
  obtain ⟨ev, hEV⟩ : ∃ N, num ev_ 4 = N := ⟨_, rfl⟩
  rw [hEV] at hev
  have HEV := hide hEV
  clear hB hST hEV
  have HMB := hide (And.intro m1 m2)
  clear m1 m2
  by_cases lz : 20 < nz
  · have dlz : decide ((20 : Int) < nz) = true := decide_eq_true (by omega)
    go_enter Tryz.func3, Tryz.ntmps3
    go_wp2_with (first
      | (go_at_call 9; refine HFI.out.mono ?_; rintro e w1 ⟨rfl, hb1⟩; have HB1 := hide hb1; clear hb1)
      | (go_at_call 10; (with_reducible refine (HLB.out w1).mono ?_); rintro e wv ⟨rfl, hwv⟩; obtain rfl : w1 = wv := hwv; clear HLB)
      | (go_at_call 11; (with_reducible refine (num_at st_ 300 300 _ rfl (by omega) (by omega) hst_.1 hst_.2).mono ?_); rintro e wv ⟨rfl, rfl⟩; rw [HST.out])
      | fail)
    go_ret
    exact ⟨rfl, HB1.out⟩
  have dlz : decide ((20 : Int) < nz) = false := decide_eq_false (by omega)
  have m1 := HMB.out.1
  have m2 := HMB.out.2
  have HRW := hide (fun (W : World) (hw : Below w.heap.size w W) => rowE_any B Az cz nz ev zs W HNZ.out (by omega) (by omega) (by omega) (HZ.out.below hw (Nat.le_refl _)) hzb)
  have hok := Rw.goB_ok zs (B : Int) 0 ev (by omega) (by have := HNZ.out; omega) (by have := HNZ.out; omega)
  have hgd : ∀ b ∈ Rw.go (B : Int) 0 ev zs, Rc.Good b := fun b hb => (hok b hb).1
  have hsm := Rw.go_small zs (B : Int) 0 ev hgd
  have htm := Rw.go_time zs (B : Int) 0 ev
  have hch := Rw.go_chain zs (B : Int) 0 ev (Sg.begin (Nm.seg B) B ((ST : Int) + 1)) rfl (by show (0 : Int) ≤ 1 + ((0 / ev : Nat) : Int); generalize 0 / ev = q; omega)
  have HMD := hide (fun (W : World) (hb : Below w.heap.size w W) (A : Option Addr) (cap : Nat) (hbt : Bats W A (Rw.go (B : Int) 0 ev zs)) => made_any (B : Int) ((ST : Int) + 1) A cap nz _ W p (HS.out.below hb) (HT.out.below hb (Nat.le_refl _)) (HPT.out.below hb) (by rw [Rw.go_len]; exact HNZ.out) (by omega) hbt hgd hsm (by omega) (by omega) hch)
  have hgl := Rw.go_len zs (B : Int) 0 ev
  rw [HNZ.out] at hgl
  have hfl := flat_len_le Rc.bytes 300 _ hsm
  rw [hgl] at hfl
  have HFL := hide hfl
  have HGL := hide hgl
  have HTM := hide htm
  have HGD := hide hgd
  have HLR : Hid (∀ b ∈ Rw.go (B : Int) 0 ev zs, b.recs.length ≤ 1000000 ∧ ∀ r ∈ b.recs, r.k.length ≤ 1000000 ∧ r.v.length ≤ 1000000) := hide fun b hb => ⟨by have := (hok b hb).2.1; omega, fun r hr => by have := (hok b hb).2.2 r hr; omega⟩
  clear hok hgd hsm hch hgl hzb hfl htm
  generalize Rw.go (B : Int) 0 ev zs = cs at *
  have HNW := hide (fun (W : World) => ixNew_any ((ST : Int) + 1) W (by omega))
  clear m1 m2
  go_enter Tryz.func3, Tryz.ntmps3
  go_upto_region 14 with (first
    | (go_at_call 9; refine HFI.out.mono ?_; rintro e w1 ⟨rfl, hb1⟩; have HB1 := hide hb1; clear hb1 HFI)
    | (go_at_call 10; (with_reducible refine (HLB.out w1).mono ?_); rintro e wv ⟨rfl, hwv⟩; obtain rfl : w1 = wv := hwv; clear HLB)
    | (go_at_call 11; (with_reducible refine (num_at st_ 300 300 _ rfl (by omega) (by omega) hst_.1 hst_.2).mono ?_); rintro e wv ⟨rfl, rfl⟩; rw [HST.out])
    | (go_at_call 11; (with_reducible refine (num_at ev_ 4 4 _ rfl (by omega) (by omega) he_.1 he_.2).mono ?_); rintro e wv ⟨rfl, rfl⟩; rw [HEV.out])
    | (go_at_call 12; refine (HRW.out w1 HB1.out).mono ?_; rintro e w2 ⟨⟨A2, c2, rfl, hc2, hm2, hbt2, qs0, hrow2, hqs2⟩, hb2⟩; have HB2 := hide (HB1.out.trans (hb2.mono HB1.out.size)); have HBT := hide hbt2; have HROW := hide hrow2; have HQS := hide hqs2; have HZ1 := hide hb2.size; clear hbt2 hb2 HRW hrow2 hqs2)
    | (go_at_call 13; refine (HMD.out w2 HB2.out A2 c2 HBT.out).mono ?_; rintro e w3 ⟨Bd, X, S, T, d, s, x, rfl, hw3, hm3⟩; have HW3 := hide hw3; have HM3 := hide hm3.mz; have HMD3 := hide hm3; clear hw3 hm3 HMD)
    | (go_at_call 14; refine (HNW.out w3).mono ?_; rintro e w4 ⟨rfl, hi4, hb4⟩; have HI4 := hide hi4; have HB4 := hide hb4; clear hi4 hb4 HNW)
    | fail)
  obtain ⟨I, hI⟩ : ∃ I, I = w3.heap.size := ⟨_, rfl⟩
  rw [← hI] at HI4 HB4 ⊢
  have HI := hide hI
  clear hI
  have hfl6 : (cs.flatMap Rc.bytes).length ≤ 1000000 := by have := HFL.out; omega
  have HFL6 := hide hfl6
  have HADD := hide (fun j hj L hL => HM3.out.ixAdd HW3.out.ok HTM.out hfl6 j hj L hL)
  have HINV := hide (HM3.out.ixInv HW3.out.ok HTM.out hfl6 (by omega))
  have HLEN := hide (fun j => ixs_adds ((ST : Int) + 1) (Sg.begin (Nm.seg B) B ((ST : Int) + 1)) cs j)
  have HZERO : Hid (ixs ((ST : Int) + 1) (Sg.begin (Nm.seg B) B ((ST : Int) + 1)) cs 0 = Ix.new ((ST : Int) + 1)) := hide rfl
  have HIDX := hide (fun (W : World) (hw : Below w3.heap.size w3 W) (hsc : SentsG W p) => sgIndex_any W X Bd T d s p ((HW3.out.grow hw).seg) HW3.out.ok hsc HM3.out (by rw [HGL.out]; omega) (by rw [HM3.out.pos]; omega))
  have HEDT : Hid (∀ (j : Nat) (hj : j < cs.length), (Sg.ed s.edges (j + 1)).time = max (Sg.ed s.edges j).time (Rc.maxT cs[j].recs)) := hide fun j hj => by
    have h := eAt_next (base := (B : Int)) (every := (ST : Int) + 1) HTM.out j hj
    rw [eAt_ed HM3.out j (by omega), eAt_ed HM3.out (j + 1) (by omega)] at h
    exact h
  have HEDO : Hid (∀ (j : Nat) (hj : j < cs.length), (Sg.ed s.edges (j + 1)).off = cs[j].base + cs[j].recs.length) := hide fun j hj => by
    have h : (Sg.ed s.edges (j + 1)).off = cs[j].base + cs[j].recs.length := by rw [HM3.out.edges]; exact Sg.ed_next _ rfl cs j hj
    exact h
  have hE0 : (Sg.ed s.edges 0).off = (B : Int) ∧ (Sg.ed s.edges 0).time = 0 := by
    rw [← eAt_ed HM3.out 0 (by omega)]; exact ⟨rfl, rfl⟩
  have HE0 := hide hE0
  have HEB : Hid (∀ j, j ≤ cs.length → (0 ≤ (Sg.ed s.edges j).off ∧ (Sg.ed s.edges j).off ≤ 1099511627776) ∧ -1099511627776 ≤ (Sg.ed s.edges j).time ∧ (Sg.ed s.edges j).time ≤ 1099511627776) := hide fun j hj => HW3.out.ok.edge j (by rw [HM3.out.len]; omega)
  generalize ixs ((ST : Int) + 1) (Sg.begin (Nm.seg B) B ((ST : Int) + 1)) cs = ix at *
  have HLAST := hide (HM3.out.edLast)
  clear hE0 hfl6
  go_wp2_with fail
  go_loopw [17, 20, 21, 22] (fun rv en tm iv wr => ∃ (j : Nat) (S1 : Nat → Prop), j ≤ nz ∧ iv = .int .i64 j ∧ en = .int .i64 (Sg.ed s.edges j).off ∧ tm = .int .i64 (Sg.ed s.edges j).time ∧ Own wr I rv ((cs.take j).flatMap Rc.bytes) ∧ IxAt wr I (ix j) S1 ∧ (∀ k, S1 k → I ≤ k ∧ k < wr.heap.size) ∧ (∀ k, rv.ownBlock = some k → ¬ S1 k) ∧ Below I w3 wr) (fun _ _ _ iv _ => nz - (intOf iv).toNat)
  case atStart => exact ⟨0, _, Nat.zero_le _, rfl, by rw [HE0.out.1], by rw [HE0.out.2], Own.nil _ _, by rw [HZERO.out]; exact HI4.out, fun k hk => hk, fun k hk => by simp [Value.ownBlock] at hk, HB4.out⟩
  case round =>
    obtain ⟨j, S1, hj, rfl, rfl, rfl, how, hix, hsl, hns, hbr⟩ := hrel
    have HOW := hide how
    have HIX := hide hix
    have HSL := hide hsl
    have HNS := hide hns
    have HBR := hide hbr
    obtain ⟨Av, cv, rfl, -, -⟩ := how.reads
    clear how hix hsl hns hbr
    have HBW := hide (HW3.out.below.trans ((show Below w3.heap.size w3 wr from HI.out ▸ HBR.out).mono HW3.out.below.size))
    have HBZ := hide (show Below w.heap.size w wr from HB2.out.trans (HBW.out.mono HB2.out.size))
    by_cases hlt : j < nz
    · have dln : decide (j < nz) = true := decide_eq_true hlt
      have hkl : j < cs.length := by rw [HGL.out]; exact hlt
      obtain ⟨bj, oj, rfl, hbl, Ax, cx, q0, q1, q2, hib⟩ := HBT.out.at_ j hkl
      have hgk := HGD.out cs[j] (List.getElem_mem hkl)
      have hlk := bytes_most cs[j] hgk
      have hl8 : 8 ≤ (Rc.bytes cs[j]).length := by rw [Rc.bytes_len]; omega
      obtain ⟨hgood, hadd⟩ := HADD.out j hkl (Rc.bytes cs[j]).length (by omega)
      have htk : (cs.take (j + 1)).flatMap Rc.bytes = (cs.take j).flatMap Rc.bytes ++ Rc.bytes cs[j] := by rw [List.take_succ_eq_append_getElem hkl, List.flatMap_append]; simp
      have hfj := Sg.flat_take_le cs (j + 1) cs.length (by omega)
      rw [List.take_length, htk, List.length_append] at hfj
      have hf6 := HFL6.out
      have hed := HEDT.out j hkl
      have heo := HEDO.out j hkl
      have heb := HEB.out (j + 1) (by omega)
      have hea := HEB.out j (by omega)
      have g1 := hgk.n1
      have g2 := hgk.base0
      have g3 := hgk.base1
      have HIB := hide (fun (W : World) (hw : Below w2.heap.size w2 W) => hib.below hw (Nat.le_refl _))
      have HBA := hide (fun (W : World) (hw : Below w2.heap.size w2 W) => rbatch_any cs[j] Ax cx cs[j].recs.length W (HIB.out W hw) hgk rfl)
      have HTI := hide (fun (W : World) (hw : Below w2.heap.size w2 W) => time_any cs[j].base cs[j].epoch cs[j].recs Ax cx cs[j].recs.length W rfl (by omega) (HIB.out W hw).recs)
      have HTR := hide (fun (W : World) (hw : Below w2.heap.size w2 W) => rtime_any cs[j].base cs[j].epoch cs[j].recs Ax cx cs[j].recs.length W rfl (by omega) (HIB.out W hw).recs)
      have HNX := hide (fun (W : World) => rnext_any cs[j] Ax cx cs[j].recs.length W rfl g2 (by omega) (by omega))
      rw [← heo] at HNX
      have HAD := hide (fun (W : World) (hw : Below wr.heap.size wr W) => (ixAdd_any I (ix j) S1 p cs[j].base (Rc.maxT cs[j].recs) (((cs.take j).flatMap Rc.bytes).length : Nat) (Rc.bytes cs[j]).length W (HIX.out.below hw) (HINV.out j (by omega)).ok (by have := (HLEN.out j).1; omega) (by have := (HLEN.out j).2.1; omega) ((HS.out.below (HBZ.out.trans (hw.mono HBZ.out.size))).cell 4 (by omega))))
      rw [hadd] at HAD
      simp only [errR] at HAD
      have HTK := hide htk
      have HED := hide hed
      have HFJ : Hid (((cs.take j).flatMap Rc.bytes).length + (Rc.bytes cs[j]).length ≤ 1000000) := hide (by omega)
      have HL8 := hide hl8
      have HEBB := hide (And.intro heb hea)
      have x0 := (HBW.out.cell (p := ⟨bj, oj + j * 3, none⟩) hbl).trans q0
      have x1 := (HBW.out.cell (p := ⟨bj, oj + j * 3 + 1, none⟩) hbl).trans q1
      have x2 := (HBW.out.cell (p := ⟨bj, oj + j * 3 + 2, none⟩) hbl).trans q2
      have hblr : bj < wr.heap.size := Nat.lt_of_lt_of_le hbl HBW.out.size
      have HQ := hide (And.intro q0 (And.intro q1 q2))
      clear hgk hlk hl8 hgood hadd htk hfj hf6 hed heo heb hea g2 g3 hib q0 q1 q2
      unfold batV at HBA HTI HTR HNX
      obtain ⟨en1, hen1⟩ : ∃ z, z = (Sg.ed s.edges (j + 1)).off := ⟨_, rfl⟩
      obtain ⟨tm1, htm1⟩ : ∃ z, z = (Sg.ed s.edges (j + 1)).time := ⟨_, rfl⟩
      obtain ⟨en0, hen0⟩ : ∃ z, z = (Sg.ed s.edges j).off := ⟨_, rfl⟩
      obtain ⟨tm0, htm0⟩ : ∃ z, z = (Sg.ed s.edges j).time := ⟨_, rfl⟩
      rw [← hen1] at HNX
      rw [← htm1, ← htm0] at HED
      rw [← hen0, ← htm0]
      have HEQ := hide (And.intro hen1 htm1)
      clear hen1 htm1 hen0 htm0
      generalize Rc.maxT cs[j].recs = tb at *
      generalize Rc.bytes cs[j] = lb at *
      generalize cs[j].base = ba at *
      generalize cs[j].epoch = ep at *
      generalize cs[j].recs.length = nr at *
      obtain ⟨fl, hfl⟩ : ∃ fl, fl = (cs.take j).flatMap Rc.bytes := ⟨_, rfl⟩
      rw [← hfl] at HOW HNS HAD HTK HFJ ⊢
      clear hfl
      obtain ⟨u, hu⟩ : ∃ u, u = fl.length := ⟨_, rfl⟩
      rw [← hu] at HOW HNS HAD HFJ ⊢
      have HU := hide hu
      obtain ⟨L, hL⟩ : ∃ L, L = lb.length := ⟨_, rfl⟩
      rw [← hL] at HAD HFJ HL8
      have HL := hide hL
      clear hu hL g1 HIB hkl
      go_upto_region 20 with (first
        | (go_at_call 15; refine (HBA.out wr HBW.out).mono ?_; rintro e w5 ⟨vb, rfl, hob, hb5⟩; obtain ⟨Ab, cb, rfl, -, -⟩ := hob.reads; have HOB := hide hob; have HB5 := hide hb5; rw [← HL.out]; clear hob hb5)
        | fail)
      have u0 := (HB5.out.cell (p := ⟨bj, oj + j * 3, none⟩) hblr).trans x0
      have u1 := (HB5.out.cell (p := ⟨bj, oj + j * 3 + 1, none⟩) hblr).trans x1
      have u2 := (HB5.out.cell (p := ⟨bj, oj + j * 3 + 2, none⟩) hblr).trans x2
      have hbl5 : bj < w5.heap.size := Nat.lt_of_lt_of_le hblr HB5.out.size
      rw [← HL.out] at HOB
      have HBW5 := hide (HBW.out.trans (HB5.out.mono HBW.out.size))
      clear x0 x1 x2 HBA
      refine wp_region_V (G0 := fun a b : World => Below a.heap.size a b) (G1 := fun a b : World => Below a.heap.size a b) (J := fun W => IxPost I (ix (j + 1)) S1 w5 W) ⟨fun w => Below.refl _ w, fun h k => h.trans (k.mono h.size)⟩ (fun _ _ h hb => h.grow hb) 22 [76, 77, 78, 79, 80, 81, 82, 83, 84, 85, 86, 87, 88, 89, 90, 91, 92, 93, 94, 95, 96, 97, 98, 99, 100] [76, 77, 78, 79, 80, 81, 82, 83, 84, 85, 86, 87, 88, 89, 90, 91, 92, 93, 94, 95, 96, 97, 98, 99, 100] [0, 1, 2, 3, 4, 5, 6, 7, 8, 9, 10, 11, 12, 13, 14, 15, 16, 17, 18, 19, 20, 21] [23, 24] (fun d => .is (match d with | 76 => .pointer (some ⟨I, 0, none⟩) | 77 => .bool false | 78 => .bool false | 79 => .nilIface | 80 => .bool false | 81 => .bool false | 82 => .bool false | 83 => .pointer (some ⟨I, 0, none⟩) | 84 => .slice (some ⟨bj, oj, none⟩) nz c2 | 85 => .int .i64 j | 86 => .pointer (some ⟨bj, oj + j * 3, none⟩) | 87 => .pointer (some ⟨bj, oj + j * 3, none⟩) | 88 => .int .i64 ba | 89 => .slice (some ⟨bj, oj, none⟩) nz c2 | 90 => .int .i64 j | 91 => .pointer (some ⟨bj, oj + j * 3, none⟩) | 92 => .agg #[.int .i64 ba, .int .i64 ep, .slice Ax nr cx] | 93 => .int .i64 tb | 94 => .slice Av u cv | 95 => .int .i64 u | 96 => .slice Ab L cb | 97 => .int .i64 L | 98 => .nilIface | 99 => .bool false | 100 => .bool false | _ => undef)) (fun d => .is (match d with | 76 => .pointer (some ⟨I, 0, none⟩) | 77 => .bool false | 78 => .bool false | 79 => .nilIface | 80 => .bool false | 81 => .bool false | 82 => .bool false | 83 => .pointer (some ⟨I, 0, none⟩) | 84 => .slice (some ⟨bj, oj, none⟩) nz c2 | 85 => .int .i64 j | 86 => .pointer (some ⟨bj, oj + j * 3, none⟩) | 87 => .pointer (some ⟨bj, oj + j * 3, none⟩) | 88 => .int .i64 ba | 89 => .slice (some ⟨bj, oj, none⟩) nz c2 | 90 => .int .i64 j | 91 => .pointer (some ⟨bj, oj + j * 3, none⟩) | 92 => .agg #[.int .i64 ba, .int .i64 ep, .slice Ax nr cx] | 93 => .int .i64 tb | 94 => .slice Av u cv | 95 => .int .i64 u | 96 => .slice Ab L cb | 97 => .int .i64 L | 98 => .nilIface | 99 => .bool false | 100 => .bool false | _ => undef)) (by kernel_rfl) (by kernel_rfl) (by kernel_rfl) (.inl rfl) ?_ ?_
      · simp only [StepsV]
        refine ⟨?_, ?_, ?_, ?_, ?_, ?_, ?_, ?_, ?_, ?_, ?_, ?_, ?_, ?_, ?_, ?_, ?_, ?_, ?_, ?_, ?_, ?_, ?_, ?_, ?_, trivial⟩
        all_goals first | rw [if_pos (by decide)] | (rw [if_neg (by decide)]; first | rw [if_pos (by decide)] | (rw [if_neg (by decide)]; rw [if_pos (by decide)]))
        all_goals
          intro ev wb hb hev hd
          have ev18 : ev (.tmp 18) = .pointer (some ⟨I, 0, none⟩) := hev _ (by simp)
          have ev19 : ev (.tmp 19) = .nilIface := hev _ (by simp)
          have ev14 : ev (.tmp 14) = .slice (some ⟨bj, oj, none⟩) nz c2 := hev _ (by simp)
          have ev22 : ev (.tmp 22) = .int .i64 j := hev _ (by simp)
          have ev17 : ev (.tmp 17) = .slice Av u cv := hev _ (by simp)
          have ev23 : ev (.tmp 23) = .slice Ab L cb := hev _ (by simp)
          have evf : ∀ f, ev (.func f) = .func (.func f) #[] #[] := fun f => hev _ (by simp)
          have evc : ∀ c, ev (.const c) = c := fun c => hev _ (by simp)
          simp [DepsV, Held.is] at hd
          clear hev
          try
            have HBb : Hid (Below w5.heap.size w5 wb) := hide ((Below.refl _ _).drew.trans hb)
            have v0 := (HBb.out.cell (p := ⟨bj, oj + j * 3, none⟩) hbl5).trans u0
            have v1 := (HBb.out.cell (p := ⟨bj, oj + j * 3 + 1, none⟩) hbl5).trans u1
            have v2 := (HBb.out.cell (p := ⟨bj, oj + j * 3 + 2, none⟩) hbl5).trans u2
          clear hb
          try (simp [OpGuardU, undef, OpRuns, execOp, go_sem, Held.is, Below.refl, *]; done)
        · simp [OpGuardU, undef, OpRuns, execOp, go_sem, Held.is, Below.refl, *]
          exact HTI.out wb (HBW5.out.trans (HBb.out.mono HBW5.out.size))
        · simp [OpGuardU, undef, OpRuns, execOp, go_sem, Held.is, *]
          exact (HAD.out wb (HB5.out.trans (HBb.out.mono HB5.out.size))).mono fun e w'' ⟨he, hp⟩ => ⟨he, IxPost.ahead HBb.out ⟨hp.1, hp.2⟩⟩
      · intro f wd hJ hf
        have e100 : f 100 = .bool false := hf 100 (by simp)
        have HJ := hide hJ
        clear hf hJ
        simp only [puts, Act.put, List.setIfInBounds_toArray, List.set_cons_succ, List.set_cons_zero]
        rw [e100]
        clear e100
        generalize f 76 = z76
        generalize f 77 = z77
        generalize f 78 = z78
        generalize f 79 = z79
        generalize f 80 = z80
        generalize f 81 = z81
        generalize f 82 = z82
        generalize f 83 = z83
        generalize f 84 = z84
        generalize f 85 = z85
        generalize f 86 = z86
        generalize f 87 = z87
        generalize f 88 = z88
        generalize f 89 = z89
        generalize f 90 = z90
        generalize f 91 = z91
        generalize f 92 = z92
        generalize f 93 = z93
        generalize f 94 = z94
        generalize f 95 = z95
        generalize f 96 = z96
        generalize f 97 = z97
        generalize f 98 = z98
        generalize f 99 = z99
        clear f
        have hz3 : I ≤ wr.heap.size := by rw [HI.out]; exact HBR.out.size
        have hz5 := HB5.out.size
        have hzd := HJ.out.chg.size
        have HOWD : Hid (Own wd I (.slice Av u cv) fl) := hide (ownsRow_same (HOW.out.below HB5.out (Nat.le_refl _)) fun g hg => HJ.out.chg.block g (by have := (HOW.out.lt g hg).2; omega) (HNS.out g hg))
        have HOBD : Hid (Own wd wr.heap.size (.slice Ab L cb) lb) := hide (ownsRow_same HOB.out fun g hg => HJ.out.chg.block g (HOB.out.lt g hg).2 (fun h => by have := (HSL.out g h).2; have := (HOB.out.lt g hg).1; omega))
        have HBD : Hid (Below I w3 wd) := hide ((HBR.out.trans (HB5.out.mono hz3)).trans (HJ.out.chg.below (by omega) fun k hk => (HSL.out k hk).1))
        have HZS := hide (And.intro hz3 (And.intro hz5 hzd))
        clear hz3 hz5 hzd u0 u1 u2 hbl5 hblr HAD HTI
        go_upto_region 23 with (first
          | (at_builtin; refine wpList_app rfl (.tmp 101) (.tmp 102) rfl I (.slice Av u cv) fl lb rfl HOWD.out Ab L cb rfl HL.out.symm (own_rd HOBD.out) (by rw [← HU.out]; have := HFJ.out; omega) (by have := HZS.out; omega) ?_; intro v6 w6 hown6 hg6 hat6; have HO6 := hide hown6; have HG6 := hide hg6; have HAT6 := hide hat6; clear hown6 hg6 hat6)
          | fail)
        have hup : ∀ k, (Value.slice Av u cv).ownBlock = some k → ¬ Up S1 w5 wd k := fun k hk h => by
          have h1 := HNS.out k hk
          have h2 := (HOW.out.lt k hk).2
          have h3 := HZS.out
          rcases h with h | h
          · exact h1 h
          · omega
        have HIX6 : Hid (IxAt w6 I (ix (j + 1)) (Up S1 w5 wd)) := hide (HJ.out.at_.same fun k hk hkl => HG6.out.block k hkl fun e => hup k e.symm hk)
        have HSL6 : Hid (∀ k, Up S1 w5 wd k → I ≤ k ∧ k < w6.heap.size) := hide fun k hk => by
          have h3 := HZS.out
          have h4 := HG6.out.size
          rcases hk with hk | hk
          · have := HSL.out k hk; omega
          · omega
        have HNS6 : Hid (∀ k, v6.ownBlock = some k → ¬ Up S1 w5 wd k) := hide fun k hk h => by
          rcases HAT6.out with h1 | h1
          · exact hup k (h1 ▸ hk) h
          · have h2 := h1.symm.trans hk
            injection h2 with h2
            have h3 := HZS.out
            rcases h with h | h
            · have := (HSL.out k h).2; omega
            · omega
        have HB6 : Hid (Below I w3 w6) := hide (HBD.out.grown HG6.out (by have := HZS.out; omega) fun k hk => (HOW.out.lt k hk).1)
        have HBW6 := hide (HW3.out.below.trans ((show Below w3.heap.size w3 w6 from HI.out ▸ HB6.out).mono HW3.out.below.size))
        obtain ⟨q0, q1, q2⟩ := HQ.out
        have t0 := (HBW6.out.cell (p := ⟨bj, oj + j * 3, none⟩) hbl).trans q0
        have t1 := (HBW6.out.cell (p := ⟨bj, oj + j * 3 + 1, none⟩) hbl).trans q1
        have t2 := (HBW6.out.cell (p := ⟨bj, oj + j * 3 + 2, none⟩) hbl).trans q2
        have hbl6 : bj < w6.heap.size := Nat.lt_of_lt_of_le hbl HBW6.out.size
        have hmx := HED.out.symm
        clear hup q0 q1 q2
        go_wp2_with (first
          | (go_at_call 18; refine (HNX.out w6).mono ?_; rintro e w7 ⟨rfl, hb7⟩; have HB7 := hide hb7; have HBW7 := hide (HBW6.out.trans (hb7.mono HBW6.out.size)); have s0 := (hb7.cell (p := ⟨bj, oj + j * 3, none⟩) hbl6).trans t0; have s1 := (hb7.cell (p := ⟨bj, oj + j * 3 + 1, none⟩) hbl6).trans t1; have s2 := (hb7.cell (p := ⟨bj, oj + j * 3 + 2, none⟩) hbl6).trans t2; clear hb7 HNX t0 t1 t2)
          | (go_at_call 19; refine (HTR.out w7 HBW7.out).mono ?_; rintro e w8 ⟨rfl, hb8⟩; have HB8 := hide (HB7.out.trans (hb8.mono HB7.out.size)); clear hb8 HTR)
          | fail)
        go_roundw
        case rel => exact ⟨j + 1, Up S1 w5 wd, by omega, by go_num, by rw [HEQ.out.1], by rw [HEQ.out.2], by rw [HTK.out]; exact HO6.out.below HB8.out (Nat.le_refl _), HIX6.out.below HB8.out, fun k hk => ⟨(HSL6.out k hk).1, Nat.lt_of_lt_of_le (HSL6.out k hk).2 HB8.out.size⟩, HNS6.out, HB6.out.trans (HB8.out.mono (by have h1 := HZS.out; have h2 := HG6.out.size; omega))⟩
        case measure => simp [intOf]; omega
    · obtain rfl : j = nz := by omega
      have dln : decide (j < j) = false := decide_eq_false (by omega)
      have hcs : cs.take j = cs := List.take_of_length_le (by rw [HGL.out]; exact Nat.le_refl _)
      rw [hcs] at HOW
      rw [hcs]
      have hle := HLAST.out
      rw [HGL.out] at hle
      rw [hle]
      have hfl6 := HFL6.out
      have hmo := HM3.out.offMono 0 cs.length (by omega) (by rw [HM3.out.len]; omega)
      rw [HLAST.out, HE0.out.1] at hmo
      have heb := (HEB.out cs.length (Nat.le_refl _)).1
      rw [HLAST.out] at heb
      have H3R : Hid (Below w3.heap.size w3 wr) := hide (HI.out ▸ HBR.out)
      have HGR := hide (fun (W : World) (hw : Below wr.heap.size wr W) => HW3.out.grow (H3R.out.trans (hw.mono H3R.out.size)))
      have HRAW := hide (fun (W : World) (hw : Below wr.heap.size wr W) => sgRawAll_any w2 W S T _ Bd X d s p (HGR.out W hw) (HS.out.below HB2.out) (by omega))
      rw [HM3.out.rawR] at HRAW
      simp only [errR] at HRAW
      have HBAS := hide (fun (W : World) (hw : Below wr.heap.size wr W) => sgBase_any X Bd s T W (HGR.out W hw).seg HW3.out.ok)
      have HENS := hide (fun (W : World) (hw : Below wr.heap.size wr W) => sgEnd_any X Bd s T W (HGR.out W hw).seg HW3.out.ok)
      have HSIZ := hide (fun (W : World) (hw : Below wr.heap.size wr W) => sgSize_any X Bd s T W (HGR.out W hw).seg HW3.out.ok)
      have HTIS := hide (fun (W : World) (hw : Below wr.heap.size wr W) => sgTime_any X Bd s T W (HGR.out W hw).seg HW3.out.ok)
      have HSEN := hide (fun (W : World) (hw : Below wr.heap.size wr W) => HS.out.below (HBZ.out.trans (hw.mono HBZ.out.size)))
      have HIXS := hide (fun (W : World) (hw : Below wr.heap.size wr W) => HIDX.out W (H3R.out.trans (hw.mono H3R.out.size)) (HSEN.out W hw))
      rw [HE0.out.1] at HBAS
      rw [HM3.out.pos] at HSIZ
      have hinv := HINV.out cs.length (Nat.le_refl _)
      have hlen := HLEN.out cs.length
      have hml : (ix cs.length).marks.length ≤ 4096 := by have := hlen.2.1; have := HGL.out; omega
      have HBY := hide (fun (Y : Nat) (S9 : Nat → Prop) (W : World) (hw : Below wr.heap.size wr W) (hi : IxAt W Y (ix cs.length) S9) => ixBytes_any Y _ S9 W hi (by have := hinv.ok.every; omega) hml hinv.steps (HT.out.below (HBZ.out.trans (hw.mono HBZ.out.size)) (Nat.le_refl _)) (by have h1 := H4.out; have h2 := HBZ.out.size; have h3 := hw.size; omega))
      have hbl := ixBytes_le hinv hml
      have HBL : Hid ((Ix.bytes (ix cs.length)).length ≤ 1000000) := hide (by omega)
      have HIXN : Hid (IxAt wr I (ix cs.length) S1) := hide (by rw [HGL.out]; exact HIX.out)
      generalize Ix.bytes (ix cs.length) = lx at *
      clear hinv hlen hml hbl hle hcs HIX HINV HLEN HADD HEDT HEDO HEB HIDX HZERO
      obtain ⟨lr, hlr⟩ : ∃ lr, lr = cs.flatMap Rc.bytes := ⟨_, rfl⟩
      rw [← hlr] at HOW HRAW HSIZ HFL6 ⊢
      have HLRW := hide hlr
      clear hlr hfl6
      obtain ⟨M, hM⟩ : ∃ M, M = lr.length := ⟨_, rfl⟩
      rw [← hM] at HOW HSIZ HFL6 ⊢
      have HM := hide hM
      obtain ⟨E, hE⟩ : ∃ E, E = (Sg.last s.edges).off := ⟨_, rfl⟩
      rw [← hE] at HENS hmo heb ⊢
      have HE := hide hE
      obtain ⟨TM, hTM⟩ : ∃ z, z = (Sg.last s.edges).time := ⟨_, rfl⟩
      rw [← hTM] at HTIS ⊢
      clear hM hE hTM
      have r1 := Int.emod_nonneg of_ (show E - B + 3 ≠ 0 by omega)
      have r2 := Int.emod_lt_of_pos of_ (show 0 < E - B + 3 by omega)
      have HLG := hide (fun (W : World) => long_any of_ (E - B + 3) W (by omega) (by omega) hof_.1 hof_.2)
      obtain ⟨r, hr⟩ : ∃ r, r = of_ % (E - B + 3) := ⟨_, rfl⟩
      rw [← hr] at HLG r1 r2
      have HMB1 := HMB.out
      clear hr
      have HR0 : Hid (Below wr.heap.size wr wr) := hide (Below.refl _ _)
      go_upto_region 29 with (first
        | (go_at_call 20; refine (HRAW.out wr HR0.out).mono ?_; rintro e wa ⟨vg, rfl, hog, hba⟩; obtain ⟨Ag, cg, rfl, -, -⟩ := hog.reads; rw [← HM.out]; have HSB1 := hide (sameBytes_eq Ag Av cg cv M lr wa HM.out.symm HFL6.out (own_rd hog) (own_rd (HOW.out.below hba (Nat.le_refl _)))); have HRA := hide hba; clear hog hba HRAW)
        | (go_at_call 21; refine HSB1.out.mono ?_; rintro e wb ⟨rfl, q, hq⟩; have HRB : Hid (Below wr.heap.size wr wb) := hide (by rw [hq]; exact below_drewN HRA.out q); clear hq HSB1)
        | (go_at_call 22; refine (HBAS.out wb HRB.out).mono ?_; rintro e wc ⟨rfl, hbc⟩; have HRC := hide (HRB.out.trans (hbc.mono HRB.out.size)); clear hbc HBAS)
        | (go_at_call 23; refine (HENS.out wc HRC.out).mono ?_; rintro e wd ⟨rfl, hbd⟩; have HRD := hide (HRC.out.trans (hbd.mono HRC.out.size)); clear hbd HENS)
        | (go_at_call 24; refine (HSIZ.out wd HRD.out).mono ?_; rintro e we ⟨rfl, hbe⟩; have HRE := hide (HRD.out.trans (hbe.mono HRD.out.size)); clear hbe HSIZ)
        | (go_at_call 25; refine (HTIS.out we HRE.out).mono ?_; rintro e wf ⟨rfl, hbf⟩; have HRF := hide (HRE.out.trans (hbf.mono HRE.out.size)); clear hbf HTIS)
        | (go_at_call 26; refine (HIXS.out wf HRF.out).mono ?_; rintro e wg ⟨I9, S9, rfl, hi9, -, hbg⟩; have HI9 := hide hi9; have HRG := hide (HRF.out.trans (hbg.mono HRF.out.size)); clear hbg hi9 HIXS)
        | (go_at_call 27; refine (HBY.out I9 S9 wg HRG.out HI9.out).mono ?_; rintro e wh ⟨vh, rfl, hoh, hbh⟩; obtain ⟨Ah, ch, rfl, -, -⟩ := hoh.reads; have HOH := hide hoh; have HRH := hide (HRG.out.trans (hbh.mono HRG.out.size)); clear hoh hbh HI9)
        | (go_at_call 27; refine (HBY.out I S1 wh HRH.out (HIXN.out.below HRH.out)).mono ?_; rintro e wi ⟨vi, rfl, hoi, hbi⟩; obtain ⟨Ai, ci, rfl, -, -⟩ := hoi.reads; have HSB2 := hide (sameBytes_eq Ah Ai ch ci lx.length lx wi rfl HBL.out (own_rd (HOH.out.below hbi (Nat.le_refl _))) (own_rd hoi)); have HRI := hide (HRH.out.trans (hbi.mono HRH.out.size)); clear hoi hbi HOH)
        | (go_at_call 21; refine HSB2.out.mono ?_; rintro e wj ⟨rfl, q, hq⟩; have HRJ : Hid (Below wr.heap.size wr wj) := hide (by rw [hq]; exact below_drewN HRI.out q); clear hq HSB2)
        | (go_at_call 10; (with_reducible refine (HLG.out wj).mono ?_); rintro e wv ⟨rfl, hwv⟩; obtain rfl : wj = wv := hwv; clear HLG)
        | fail)
      obtain ⟨o, ho⟩ : ∃ o : Int, o = (B : Int) + r - 1 := ⟨_, rfl⟩
      rw [← ho]
      have hob : -1 ≤ o ∧ o ≤ 1099511627780 := by omega
      have HFG := hide (HGR.out wj HRJ.out)
      have HWJ := hide (HBZ.out.trans (HRJ.out.mono HBZ.out.size))
      clear ho r1 r2 HRA HRB HRC HRD HRE HRF HRG HRH HRI HBY HIXN HBL HR0 HFL6 HOW
      by_cases hout : o < (B : Int) ∨ E ≤ o
      · have HRO := hide (sgRead_out w2 wj S T _ Bd X d s p HFG.out (HS.out.below HB2.out) o most (by rw [HE0.out.1, ← HE.out]; exact hout))
        have HIS : Hid (∀ W, Below wj.heap.size wj W → Calls Tryz.prog 29 #[errV (p 14), .int .i64 115] W fun e w' => e = .returned (.bool true) ∧ Below W.heap.size W w') := hide (fun (W : World) hw => (is_sent W p (HSA.out.below (HWJ.out.trans (hw.mono HWJ.out.size))) 14 (by omega) 115).mono fun e w' ⟨he, hb⟩ => ⟨by rw [he]; rfl, hb⟩)
        have HOO := hide hout
        by_cases hlo : o < (B : Int)
        · have d1 : decide (o < (B : Int)) = true := decide_eq_true hlo
          clear hout hlo
          go_wp2_with (first
            | (go_at_call 28; refine HRO.out.mono ?_; rintro e wk ⟨rfl, hbk⟩; have HBK := hide hbk; clear hbk HRO)
            | (go_at_call 29; refine (HIS.out wk HBK.out).mono ?_; rintro e wl ⟨rfl, hbl⟩; have HBL2 := hide (HBK.out.trans (hbl.mono HBK.out.size)); clear hbl HIS)
            | fail)
          go_ret
          exact ⟨rfl, HWJ.out.trans (HBL2.out.mono HWJ.out.size)⟩
        · have d1 : decide (o < (B : Int)) = false := decide_eq_false hlo
          have d2 : decide (E ≤ o) = true := decide_eq_true (by omega)
          clear hout hlo
          go_wp2_with (first
            | (go_at_call 28; refine HRO.out.mono ?_; rintro e wk ⟨rfl, hbk⟩; have HBK := hide hbk; clear hbk HRO)
            | (go_at_call 29; refine (HIS.out wk HBK.out).mono ?_; rintro e wl ⟨rfl, hbl⟩; have HBL2 := hide (HBK.out.trans (hbl.mono HBK.out.size)); clear hbl HIS)
            | fail)
          go_ret
          exact ⟨rfl, HWJ.out.trans (HBL2.out.mono HWJ.out.size)⟩
      · have d1 : decide (o < (B : Int)) = false := decide_eq_false (by omega)
        have d2 : decide (E ≤ o) = false := decide_eq_false (by omega)
        have hfl6 : (cs.flatMap Rc.bytes).length ≤ 1000000 := by have := HFL.out; omega
        obtain ⟨k, q, hk, hq, hql⟩ := HMD3.out.find o (by show (B : Int) ≤ o; omega) (by rw [← HE.out]; omega)
        obtain ⟨f, fin, hf, hfin, hfl, hra⟩ := HMD3.out.read hfl6 o most k q hk hq hql
        subst hf
        have hwant := HM3.out.want o most k q fin hk hq hql hfin hfl
        have HRG2 := hide (sgRead_good w2 wj S T _ Bd X d s p HFG.out (HS.out.below HB2.out) (HT.out.below HB2.out (Nat.le_refl _)) (by omega) o most (by omega) k q _ fin _ _ hra)
        have hqn0 : qs0.length = j := by have h := congrArg List.length HQS.out; rw [List.length_map, HGL.out] at h; exact h
        have HW2J := hide (HBW.out.trans (HRJ.out.mono HBW.out.size))
        have HWN := hide (fun (W : World) (hw : Below wj.heap.size wj W) => want_any A2 c2 j w1.heap.size qs0 W o most hqn0 (by omega) (by have h1 := HZ1.out; have h2 := HW2J.out.size; have h3 := hw.size; omega) (HROW.out.below (HW2J.out.trans (hw.mono HW2J.out.size))) (fun q hq => HGD.out q.b (by rw [← HQS.out]; exact List.mem_map_of_mem hq)) (by omega) hmo_)
        rw [HQS.out, hwant] at HWN
        obtain ⟨xs, hxs⟩ : ∃ xs, xs = cutB cs[k] o q :: (cs.drop (k + 1)).take (fin - (k + 1)) := ⟨_, rfl⟩
        rw [← hxs] at HWN HRG2
        have HXR : Hid (∀ b ∈ xs, b.recs.length ≤ 1000000 ∧ ∀ r ∈ b.recs, r.k.length ≤ 1000000 ∧ r.v.length ≤ 1000000) := hide fun b hb => by
          rw [hxs] at hb
          rcases List.mem_cons.1 hb with rfl | hb
          · have h := HLR.out cs[k] (List.getElem_mem hk)
            exact ⟨by simp only [cutB, List.length_drop]; omega, fun r hr => h.2 r (List.mem_of_mem_drop hr)⟩
          · exact HLR.out b (List.mem_of_mem_drop (List.mem_of_mem_take hb))
        have HXL : Hid (xs.length ≤ 1000000) := hide (by rw [hxs, List.length_cons, List.length_take, List.length_drop]; have := HGL.out; omega)
        clear hxs hwant hfin hfl hra hk hq hql hqn0 hfl6 hout
        obtain ⟨nx, hnx⟩ : ∃ nx, nx = xs.length := ⟨_, rfl⟩
        rw [← hnx] at HXL
        have HNX := hide hnx
        clear hnx
        go_wp2_with (first
          | (go_at_call 28; refine HRG2.out.mono ?_; rintro e wk ⟨vr, qr, rfl, hrr, hrm, hbk⟩; obtain ⟨Ar, cr, rfl, -, -, hbt⟩ := hrr.val; rw [hrm] at hbt; have hql2 : qr.length = nx := (by have h := congrArg List.length hrm; rw [List.length_map] at h; rw [h, HNX.out]); rw [hql2]; have HBK := hide hbk; have HBTR := hide hbt; clear hbk hbt hrr hrm hql2 HRG2)
          | (go_at_call 31; refine (HWN.out wk HBK.out).mono ?_; rintro e wl ⟨vw, rfl, ⟨qw, hrw, hwm⟩, hbl⟩; obtain ⟨Aw, cw, rfl, -, -, hbw⟩ := hrw.val; rw [hwm] at hbw; have hql3 : qw.length = nx := (by have h := congrArg List.length hwm; rw [List.length_map] at h; rw [h, HNX.out]); rw [hql3]; have HSB3 := hide (sameBatches_eq Ar Aw cr cw nx xs wl HNX.out.symm HXL.out (HBTR.out.below hbl (Nat.le_refl _)) hbw HXR.out); have HBL3 := hide (HBK.out.trans (hbl.mono HBK.out.size)); clear hbl hbw hrw hwm hql3 HWN)
          | (go_at_call 30; refine HSB3.out.mono ?_; rintro e wm ⟨rfl, hbm⟩; have HBM := hide (HBL3.out.trans (hbm.mono HBL3.out.size)); clear hbm HSB3)
          | fail)
        go_ret
        exact ⟨rfl, HWJ.out.trans (HBM.out.mono HWJ.out.size)⟩
end Go.Proofs.YtfdppggdgdnnaaaGreatDoor
