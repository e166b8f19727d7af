/-
  The walk through the reference's Read.
  The walk through the reference's All.
-/
import Derived.Test.YtomnkgppldgpkaaDoorRfP
import Derived.Test.YtomnkgppldgpkaaDoorRfB
import Derived.Test.YtomnkgppldgpkaaDoorRfV
import Derived.Test.YtomnkgppldgpkaaDoorRegG
import Derived.Test.YtomnkgppldgpkaaDoorRcA
namespace Go.Proofs.YtomnkgppldgpkaaDoor
open Go.RowKit Crc

/-- What the reference's Read gives. -/
def RRead (l : List UInt8) (w : World) (e : Ending) (w' : World) : Prop :=
  (∃ val, e = .returned (.tuple #[val, .int .i64 (Rc.rsize l : Nat), .int .i64 (Rc.rcode l : Nat)]) ∧ (Rc.rcode l = 0 → ∃ A c, val = batV (Rc.parse (Rc.rbody l)).base (Rc.parse (Rc.rbody l)).epoch A (Rc.parse (Rc.rbody l)).recs.length c ∧ NewBat w.heap.size w' A c (Rc.parse (Rc.rbody l))) ∧ (Rc.rcode l ≠ 0 → val = batV 0 0 none 0 0)) ∧ Below w.heap.size w w'
theorem RRead.no {l : List UInt8} {w w' : World} {c : Nat} (h : Rc.rcode l = c) (h0 : c ≠ 0) (hb : Below w.heap.size w w') : RRead l w (.returned (.tuple #[batV 0 0 none 0 0, .int .i64 0, .int .i64 c])) w' := by
  have hs : Rc.rsize l = 0 := by unfold Rc.rsize; rw [if_neg (by omega)]
  exact ⟨⟨batV 0 0 none 0 0, by rw [hs, h]; rfl, fun h' => absurd (h.symm.trans h') h0, fun _ => rfl⟩, hb⟩
theorem RRead.yes {l : List UInt8} {w w' : World} {A : Option Addr} {c : Nat} (h : Rc.rcode l = 0) (hi : NewBat w.heap.size w' A c (Rc.parse (Rc.rbody l))) (hb : Below w.heap.size w w') : RRead l w (.returned (.tuple #[batV (Rc.parse (Rc.rbody l)).base (Rc.parse (Rc.rbody l)).epoch A (Rc.parse (Rc.rbody l)).recs.length c, .int .i64 (8 + (Rc.rn l : Int)), .int .i64 0])) w' := by
  have hs : Rc.rsize l = 8 + Rc.rn l := by unfold Rc.rsize; rw [if_pos h]
  exact ⟨⟨batV (Rc.parse (Rc.rbody l)).base (Rc.parse (Rc.rbody l)).epoch A (Rc.parse (Rc.rbody l)).recs.length c, by rw [hs, h]; rfl, fun _ => ⟨A, c, rfl, hi⟩, fun h' => absurd h h'⟩, hb⟩

namespace Rc
/-- The head is what the sum and the length of the rest say: so a batch has these bytes just if its body is the rest. -/
theorem bytes_eq (l : List UInt8) (b : Bat) (h8 : 8 ≤ l.length) (hn : rn l ≤ l.length - 8) (hs : sumN (rbody l) = rsum l) : bytes b = l.take (8 + rn l) ↔ body b = rbody l := by
  have hbl : (rbody l).length = rn l := by unfold rbody; rw [List.length_take, List.length_drop]; omega
  have e4 : le 4 (rn l) = l.take 4 := by
    have h := Vi.le_little (l.take 4)
    rw [show (l.take 4).length = 4 by rw [List.length_take]; omega] at h; exact h
  have e5 : le 4 (rsum l) = (l.drop 4).take 4 := by
    have h := Vi.le_little ((l.drop 4).take 4)
    rw [show ((l.drop 4).take 4).length = 4 by rw [List.length_take, List.length_drop]; omega] at h; exact h
  have hl : l.take (8 + rn l) = (le 4 (rn l) ++ le 4 (rsum l)) ++ rbody l := by
    rw [e4, e5]
    unfold rbody
    rw [List.take_add, show (8 : Nat) = 4 + 4 from rfl, List.take_add]
  constructor
  · intro h
    rw [hl] at h
    unfold bytes at h
    exact (List.append_inj h (by simp [le_len])).2
  · intro h
    rw [hl]
    unfold bytes
    rw [h, hbl, hs]
end Rc

set_option maxRecDepth 100000 in
set_option maxHeartbeats 2000000 in
theorem rread_any (A : Option Addr) (cap n : Nat) (l : List UInt8) (w : World) (hn : l.length = n) (hl : n ≤ 900000) (ha : Arg w A cap l) :
    Calls Tryd.prog 7 #[.slice A n cap] w (RRead l w) := by
  subst hn
  obtain ⟨w1, hw1⟩ : ∃ w1, w1 = w.alloc (.cells #[.int .i64 0, .int .i64 0, .slice none 0 0] 26) := ⟨_, rfl⟩
  have hb1 : Below w.heap.size w w1 := hw1 ▸ balloc (Below.refl _ _) _
  have hres : Res w1 w.heap.size := hw1 ▸ Res.new w 26
  have hz1 : w1.heap.size = w.heap.size + 1 := by rw [hw1]; simp
  have HA := hide (ha.below hb1 (Nat.le_refl _))
  have HB1 := hide hb1
  have HW1 := hide hw1
  clear ha hb1 hw1
  go_enter Tryd.func7, Tryd.ntmps7
  go_upto_region 1 with fail
  rw [← HW1.out]
  have HRES := hide hres
  have r0 := hres.c0
  have r1 := hres.c1
  have r2 := hres.c2
  have rf0 := hres.f 0
  have rf1 := hres.f 1
  have rf2 := hres.f 2
  clear HW1 hres
  by_cases h8 : l.length < 8
  · have HC : Hid (Rc.rcode l = 101) := by show _ = _; unfold Rc.rcode; rw [if_pos h8]
    go_wp2_with fail
    obtain ⟨s0, s1', s2'⟩ := HRES.out.cells (.int .i64 0) (.int .i64 0) (.slice none 0 0)
    have hset := Res.set HB1.out (Nat.le_refl _) (.int .i64 0) (.int .i64 0) (.slice none 0 0)
    refine bodyPost_ret (v := .tuple #[batV 0 0 none 0 0, .int .i64 0, .int .i64 101]) (by simp [results, Tryd.results7, go_sem, s0, s1', s2']) rfl (RRead.no (c := 101) HC.out (by decide) hset)
  · have hcap := HA.out.le
    have kcut : ∀ W, (Instr.sliceAt 22 (.slice A l.length cap) none (some (.int .i64 4)) none).run Tryd.prog W = .ok (.slice A 4 cap) W := fun W => run_cut_h W A l.length cap 4 (by omega)
    have HX1 := hide (refFixed_any A cap 4 (l.take 4) w1 (by rw [List.length_take]; omega) (by omega) (HA.out.first 4).reads)
    have e1 : Vi.little (l.take 4) = Rc.rn l := rfl
    rw [e1] at HX1
    have hn1 := Rc.rn_lt l
    have hn2 := Rc.rsum_lt l
    have HCODE : Hid (Rc.rcode l = if 65536 < Rc.rn l then 104 else if l.length - 8 < Rc.rn l then 101 else if Rc.sumN (Rc.rbody l) ≠ Rc.rsum l then 102 else if Rc.okay (Rc.rbody l) = true then 0 else 103) := by
      show _ = _
      unfold Rc.rcode
      rw [if_neg h8]
    have HBD : Hid (Rc.rbody l = (l.drop 8).take (Rc.rn l)) := hide rfl
    have HBE := hide (fun b => Rc.bytes_eq l b (by omega))
    have e2 : Vi.little ((l.drop 4).take 4) = Rc.rsum l := rfl
    have HX2 := hide (refFixed_any (cutA A cap 4) (cap - 4) 4 ((l.drop 4).take 4) w1 (by rw [List.length_take, List.length_drop]; omega) (by omega) ((HA.out.cut 4 (by omega)).first 4).reads)
    rw [e2] at HX2
    clear e1 e2
    generalize hrn : Rc.rn l = rn at *
    have HRN := hide hrn
    clear hrn
    generalize Rc.rsum l = rsum at *
    go_wp2_with fail
    refine HX1.out.mono ?_
    rintro e w3 ⟨rfl, rfl⟩
    clear HX1 kcut
    by_cases hm : 65536 < rn
    · have HC : Hid (Rc.rcode l = 104) := by show _ = _; rw [HCODE.out, if_pos hm]
      go_wp2_with fail
      obtain ⟨s0, s1', s2'⟩ := HRES.out.cells (.int .i64 0) (.int .i64 0) (.slice none 0 0)
      have hset := Res.set HB1.out (Nat.le_refl _) (.int .i64 0) (.int .i64 0) (.slice none 0 0)
      refine bodyPost_ret (v := .tuple #[batV 0 0 none 0 0, .int .i64 0, .int .i64 104]) (by simp [results, Tryd.results7, go_sem, s0, s1', s2']) rfl (RRead.no (c := 104) HC.out (by decide) hset)
    · by_cases he : l.length - 8 < rn
      · have HC : Hid (Rc.rcode l = 101) := by show _ = _; rw [HCODE.out, if_neg hm, if_pos he]
        have hd : (l.length : Int) - 8 < (rn : Int) := by omega
        go_wp2_with fail
        obtain ⟨s0, s1', s2'⟩ := HRES.out.cells (.int .i64 0) (.int .i64 0) (.slice none 0 0)
        have hset := Res.set HB1.out (Nat.le_refl _) (.int .i64 0) (.int .i64 0) (.slice none 0 0)
        refine bodyPost_ret (v := .tuple #[batV 0 0 none 0 0, .int .i64 0, .int .i64 101]) (by simp [results, Tryd.results7, go_sem, s0, s1', s2']) rfl (RRead.no (c := 101) HC.out (by decide) hset)
      · have hd : ¬ (l.length : Int) - 8 < (rn : Int) := by omega
        have kcut2 : ∀ W, (Instr.sliceAt 22 (.slice A l.length cap) (some (.int .i64 8)) (some (.int .i64 (8 + (rn : Int)))) none).run Tryd.prog W = .ok (.slice (cutA A cap 8) rn (cap - 8)) W := fun W => by
          have h := run_cut_lh W A l.length cap 8 (8 + rn) (by omega) (by omega)
          rw [show 8 + rn - 8 = rn by omega, Int.natCast_add] at h
          exact h
        have kcut3 : ∀ W, (Instr.sliceAt 22 (.slice A l.length cap) (some (.int .i64 4)) (some (.int .i64 8)) none).run Tryd.prog W = .ok (.slice (cutA A cap 4) 4 (cap - 4)) W := fun W => run_cut_lh W A l.length cap 4 8 (by omega) (by omega)
        have HAB := hide ((HA.out.cut 8 (by omega)).first rn)
        rw [← HBD.out] at HAB
        have HBL : Hid ((Rc.rbody l).length = rn) := by show _ = _; rw [HBD.out, List.length_take, List.length_drop]; omega
        have HCODE2 : Hid (Rc.rcode l = if Rc.sumN (Rc.rbody l) ≠ rsum then 102 else if Rc.okay (Rc.rbody l) = true then 0 else 103) := by
          show _ = _
          rw [HCODE.out, if_neg hm, if_neg he]
        have hsl := Rc.sumN_lt (Rc.rbody l)
        have HSU := hide (refSum_any (cutA A cap 8) (cap - 8) rn (Rc.rbody l) w1 HBL.out (by omega) HAB.out.reads)
        rw [show U (sum (Rc.rbody l)) = ((Rc.sumN (Rc.rbody l) : Nat) : Int) from rfl] at HSU
        have HPX := hide (rparse_any (cutA A cap 8) (cap - 8) rn (Rc.rbody l) w1 HBL.out (by omega) HAB.out)
        have HVD := hide (Rc.verdict (Rc.rbody l))
        clear HCODE
        generalize hbd : Rc.rbody l = bd at *
        have HEB := hide hbd
        clear hbd
        generalize cutA A cap 8 = A' at *
        generalize cutA A cap 4 = A4 at *
        generalize hsn : Rc.sumN bd = sn at *
        have hrs : IntKind.u32.wrap (rsum : Int) = (rsum : Int) := by rw [IntKind.wrap_u32]; omega
        have hsz : 8 + rn ≤ l.length := by omega
        by_cases hne : sn = rsum
        · subst hne
          have hdn : ((sn : Int) != sn) = false := by simp
          go_wp2_with fail
          refine HX2.out.mono ?_
          rintro e w4 ⟨rfl, rfl⟩
          go_wp2_with fail
          refine HSU.out.mono ?_
          rintro e w5 ⟨rfl, rfl⟩
          go_wp2_with fail
          refine HPX.out.mono ?_
          rintro e w6 ⟨Ar, cr, rfl, hib, hb6⟩
          go_upto_region 12 with fail
          obtain ⟨x0, x1, x2⟩ := made3 w6 (.int .i64 (Rc.rparse bd).base) (.int .i64 (Rc.rparse bd).epoch) (.slice Ar (Rc.rparse bd).recs.length cr) 26
          have hal : Below w6.heap.size w6 (w6.alloc (.cells #[.int .i64 (Rc.rparse bd).base, .int .i64 (Rc.rparse bd).epoch, .slice Ar (Rc.rparse bd).recs.length cr] 26)) := balloc (Below.refl _ _) _
          have hxz : w6.heap.size < (w6.alloc (.cells #[.int .i64 (Rc.rparse bd).base, .int .i64 (Rc.rparse bd).epoch, .slice Ar (Rc.rparse bd).recs.length cr] 26)).heap.size := by simp
          have hib7 := hib.above (Above.of_below hal)
          have HIB := hide hib7
          have HB7 := hide (hb6.trans (hal.mono hb6.size))
          have hz6 := hb6.size
          clear hib hb6 hal hib7 HPX HX2 HSU
          generalize Rc.rparse bd = x at *
          obtain ⟨X, hX⟩ : ∃ X, X = w6.heap.size := ⟨_, rfl⟩
          rw [← hX] at x0 x1 x2 hxz hz6 ⊢
          clear hX
          generalize w6.alloc (.cells #[.int .i64 x.base, .int .i64 x.epoch, .slice Ar x.recs.length cr] 26) = w7 at *
          have HV := hide (fun W (hb : Below w7.heap.size w7 W) => rvalid_any x Ar cr x.recs.length W (HIB.out.isBat.below hb (Nat.le_refl _)) rfl)
          by_cases hbad : Rc.bad x = 0
          · have g := (Rc.bad_good x).1 hbad
            have hblx := Rc.body_len x g
            have hbyl := Rc.bytes_len x
            have hg1 := g.n1
            have hbx : (Rc.bytes x).length ≤ 100000 := by omega
            clear hbyl hblx
            have HBT := hide (fun W (hb : Below w7.heap.size w7 W) => rbatch_any x Ar cr x.recs.length W (HIB.out.isBat.below hb (Nat.le_refl _)) g rfl)
            have HSB := hide (fun (W : World) (A9 : Option Addr) (c9 : Nat) (hr : Reads W A9 (Rc.bytes x)) (hb : Below w1.heap.size w1 W) => sameBytes_any A9 A c9 cap (Rc.bytes x).length (8 + rn) (Rc.bytes x) (l.take (8 + rn)) W rfl (by rw [List.length_take]; omega) (by omega) (by omega) hr ((HA.out.first (8 + rn)).below hb (Nat.le_refl _)).reads)
            rw [hbad] at HV
            obtain ⟨sb, hsb⟩ : ∃ sb, sb = decide (Rc.bytes x = l.take (8 + rn)) := ⟨_, rfl⟩
            rw [← hsb] at HSB
            have HSBD := hide hsb
            clear hsb
            have kcut4 : ∀ W, (Instr.sliceAt 22 (.slice A l.length cap) none (some (.int .i64 (8 + (rn : Int)))) none).run Tryd.prog W = .ok (.slice A (8 + rn) cap) W := fun W => run_cut_h W A l.length cap (8 + rn) (by omega)
            have hsum : IntKind.i64.wrap (8 + (rn : Int)) = 8 + (rn : Int) := by rw [IntKind.wrap_i64]; omega
            have hz7 := HB7.out.size
            go_region_held3 (fun w' => w'.cell? ⟨X, 0, none⟩ = some (.int .i64 x.base) ∧ w'.cell? ⟨X, 1, none⟩ = some (.int .i64 x.epoch) ∧ w'.cell? ⟨X, 2, none⟩ = some (.slice Ar x.recs.length cr)) (go_keep)
              (first
                | (go_at_call 25; (with_reducible refine (HV.out _ (Below.refl _ _).drew).mono ?_); rintro e w8 ⟨rfl, hb8⟩; have hb8' : Below w7.heap.size w7 w8 := (Below.refl w7.heap.size w7).drew.trans hb8; have hs8 : w8.cell? ⟨X, 0, none⟩ = some (.int .i64 x.base) ∧ w8.cell? ⟨X, 1, none⟩ = some (.int .i64 x.epoch) ∧ w8.cell? ⟨X, 2, none⟩ = some (.slice Ar x.recs.length cr) := ⟨(hb8.cell (p := ⟨X, 0, none⟩) hxz).trans x0, (hb8.cell (p := ⟨X, 1, none⟩) hxz).trans x1, (hb8.cell (p := ⟨X, 2, none⟩) hxz).trans x2⟩)
                | (go_at_call 27; (with_reducible refine (HBT.out _ hb8').mono ?_); rintro e w9 ⟨v9, rfl, ho9, hb9⟩; obtain ⟨A9, c9, rfl, ha9⟩ := ho9.arg; have hb9' : Below w1.heap.size w1 w9 := HB7.out.trans ((hb8'.trans (hb9.mono hb8'.size)).mono hz7); have hs9 : w9.cell? ⟨X, 0, none⟩ = some (.int .i64 x.base) ∧ w9.cell? ⟨X, 1, none⟩ = some (.int .i64 x.epoch) ∧ w9.cell? ⟨X, 2, none⟩ = some (.slice Ar x.recs.length cr) := ⟨(hb9.cell (p := ⟨X, 0, none⟩) (Nat.lt_of_lt_of_le hxz hb8.size)).trans hs8.1, (hb9.cell (p := ⟨X, 1, none⟩) (Nat.lt_of_lt_of_le hxz hb8.size)).trans hs8.2.1, (hb9.cell (p := ⟨X, 2, none⟩) (Nat.lt_of_lt_of_le hxz hb8.size)).trans hs8.2.2⟩)
                | (go_at_call 26; (with_reducible refine (HSB.out _ _ _ ha9.reads hb9').mono ?_); rintro e w10 ⟨rfl, q, rfl⟩; have hs10 : (w9.drewN q).cell? ⟨X, 0, none⟩ = some (.int .i64 x.base) ∧ (w9.drewN q).cell? ⟨X, 1, none⟩ = some (.int .i64 x.epoch) ∧ (w9.drewN q).cell? ⟨X, 2, none⟩ = some (.slice Ar x.recs.length cr) := hs9)
                | fail)
            have hb10 := below_drewN hb9' q
            have hz10 := hb10.size
            have HB10 := hide hb10
            have hres10 := HRES.out.below hb10 (by omega)
            have HRES10 := hide hres10
            have r0 := hres10.c0
            have r1 := hres10.c1
            have r2 := hres10.c2
            have rf0 := hres10.f 0
            have rf1 := hres10.f 1
            have rf2 := hres10.f 2
            have t0 := hs10.1
            have t1 := hs10.2.1
            have t2 := hs10.2.2
            have HIB10 := hide (HIB.out.above (Above.of_below (below_drewN (hb8'.trans (hb9.mono hb8'.size)) q)))
            have HW10 := hide (HB1.out.trans (hb10.mono (by omega)))
            clear hb8 hb9 hb8' hb9' hs8 hs9 hs10 ho9 ha9 HV HBT HSB kcut4 hsum HB7 HIB hres10 hb10 x0 x1 x2
            generalize w9.drewN q = w10 at *
            cases sb with
            | true =>
              have hbo : Rc.body x = bd := by
                have h1 : Rc.bytes x = l.take (8 + rn) := of_decide_eq_true HSBD.out.symm
                exact (HBE.out x (by omega) trivial).1 h1
              have hok := HVD.out.1.2 ⟨hbad, hbo⟩
              have HC : Hid (Rc.rcode l = 0) := by show _ = _; rw [HCODE2.out, if_neg (by simp), if_pos hok]
              have hpx := HVD.out.2 hok
              have HPX := hide hpx
              clear hpx hbo hok HVD
              go_wp2_with fail
              obtain ⟨s0, s1', s2'⟩ := HRES10.out.cells (.int .i64 x.base) (.int .i64 x.epoch) (.slice Ar x.recs.length cr)
              have hset := Res.set HW10.out (Nat.le_refl _) (.int .i64 x.base) (.int .i64 x.epoch) (.slice Ar x.recs.length cr)
              have hnb := ((HIB10.out.above (Above.of_grown (grown_set _ w.heap.size 0 (.int .i64 x.base)) (by omega))).above (Above.of_grown (grown_set _ w.heap.size 1 (.int .i64 x.epoch)) (by omega))).above (Above.of_grown (grown_set _ w.heap.size 2 (.slice Ar x.recs.length cr)) (by omega))
              have hpost := RRead.yes (l := l) HC.out (by rw [HEB.out, ← HPX.out]; exact hnb.mono (by omega)) hset
              rw [HEB.out, HRN.out, ← HPX.out] at hpost
              exact bodyPost_ret (v := .tuple #[batV x.base x.epoch Ar x.recs.length cr, .int .i64 (8 + (rn : Int)), .int .i64 0]) (by simp [results, Tryd.results7, go_sem, s0, s1', s2']) rfl hpost
            | false =>
              have hbo : ¬ Rc.body x = bd := fun e => by
                have h1 : ¬ Rc.bytes x = l.take (8 + rn) := of_decide_eq_false HSBD.out.symm
                exact h1 ((HBE.out x (by omega) trivial).2 e)
              have hok : ¬ Rc.okay bd = true := fun h => hbo (HVD.out.1.1 h).2
              have HC : Hid (Rc.rcode l = 103) := by show _ = _; rw [HCODE2.out, if_neg (by simp), if_neg hok]
              clear hbo hok HVD
              go_wp2_with fail
              obtain ⟨s0, s1', s2'⟩ := HRES10.out.cells (.int .i64 0) (.int .i64 0) (.slice none 0 0)
              have hset := Res.set HW10.out (Nat.le_refl _) (.int .i64 0) (.int .i64 0) (.slice none 0 0)
              refine bodyPost_ret (v := .tuple #[batV 0 0 none 0 0, .int .i64 0, .int .i64 103]) (by simp [results, Tryd.results7, go_sem, s0, s1', s2']) rfl (RRead.no (c := 103) HC.out (by decide) hset)
          · have hok : ¬ Rc.okay bd = true := fun h => hbad (HVD.out.1.1 h).1
            have HC : Hid (Rc.rcode l = 103) := by show _ = _; rw [HCODE2.out, if_neg (by simp), if_neg hok]
            have hz7 := HB7.out.size
            clear hok HVD
            have hbadn : ((Rc.bad x : Int) != 0) = true := by simp; omega
            generalize ((Rc.bad x : Nat) : Int) = bc at *
            have hz7' : w7.drew.heap.size = w7.heap.size := rfl
            refine wp_region_guard (G := Below w7.heap.size) ⟨fun w => Below.refl _ w, fun h k => h.trans k⟩ [39, 40, 41, 42, 43, 44, 45, 46, 47, 48, 49, 50, 51] (fun d => match d with
              | 39 => .is (batV x.base x.epoch Ar x.recs.length cr) | 40 => .is (.int .i64 bc) | 41 => .is (.bool true) | 42 => .is (.bool true) | 51 => .is (.bool true)
              | _ => .is undef) (by kernel_rfl) (by kernel_rfl) (by kernel_rfl) ?_ ?_
            · simp only [List.size_toArray, List.length_cons, List.length_nil, List.take_succ_cons, List.take_zero, StepsG]
              refine ⟨?_, ?_, ?_, ?_, ?_, ?_, ?_, ?_, ?_, ?_, ?_, ?_, ?_, trivial⟩
              all_goals
                intro ev w1' hb hev hd
                have ev7 : ev (.tmp 7) = .pointer (some ⟨X, 0, none⟩) := hev _ (by simp)
                have evf : ∀ f, ev (.func f) = .func (.func f) #[] #[] := fun f => hev _ (by simp)
                have evc : ∀ c, ev (.const c) = c := fun c => hev _ (by simp)
                have y0 := (hb.cell (p := ⟨X, 0, none⟩) hxz).trans x0
                have y1 := (hb.cell (p := ⟨X, 1, none⟩) hxz).trans x1
                have y2 := (hb.cell (p := ⟨X, 2, none⟩) hxz).trans x2
                have HBW := hide hb
                clear hev hb
                simp [DepsG, Held.is] at hd
                try simp [OpGuard, OpRuns, execOp, go_sem, Held.is, Below.refl, *]
              exact (HV.out _ ((Below.refl w7.heap.size w7).drew.trans HBW.out)).mono fun e w'' ⟨he, hb8⟩ => ⟨he, hb8.mono HBW.out.size⟩
            · intro f w10 hb hf
              have e51 : f 51 = .bool true := hf 51 (by simp)
              have hb10 := HB7.out.trans ((((Below.refl w7.heap.size w7).drew.trans hb)).mono hz7)
              have hres10 := HRES.out.below hb10 (by omega)
              have HRES10 := hide hres10
              have r0 := hres10.c0
              have r1 := hres10.c1
              have r2 := hres10.c2
              have rf0 := hres10.f 0
              have rf1 := hres10.f 1
              have rf2 := hres10.f 2
              have HW10 := hide (HB1.out.trans (hb10.mono (by omega)))
              clear hb hf HV HB7 HIB hres10 hb10 x0 x1 x2 hbad
              simp only [puts, Act.put, List.setIfInBounds_toArray, List.set_cons_succ, List.set_cons_zero]
              rw [e51]
              clear e51
              generalize f 39 = y39
              generalize f 40 = y40
              generalize f 41 = y41
              generalize f 42 = y42
              generalize f 43 = y43
              generalize f 44 = y44
              generalize f 45 = y45
              generalize f 46 = y46
              generalize f 47 = y47
              generalize f 48 = y48
              generalize f 49 = y49
              generalize f 50 = y50
              clear f
              go_wp2_with fail
              obtain ⟨s0, s1', s2'⟩ := HRES10.out.cells (.int .i64 0) (.int .i64 0) (.slice none 0 0)
              have hset := Res.set HW10.out (Nat.le_refl _) (.int .i64 0) (.int .i64 0) (.slice none 0 0)
              refine bodyPost_ret (v := .tuple #[batV 0 0 none 0 0, .int .i64 0, .int .i64 103]) (by simp [results, Tryd.results7, go_sem, s0, s1', s2']) rfl (RRead.no (c := 103) HC.out (by decide) hset)
        · have hdn : ((rsum : Int) != (sn : Int)) = true := by simp; omega
          have HC : Hid (Rc.rcode l = 102) := by show _ = _; rw [HCODE2.out, if_pos hne]
          go_wp2_with fail
          refine HX2.out.mono ?_
          rintro e w4 ⟨rfl, rfl⟩
          go_wp2_with fail
          refine HSU.out.mono ?_
          rintro e w5 ⟨rfl, rfl⟩
          go_wp2_with fail
          obtain ⟨s0, s1', s2'⟩ := HRES.out.cells (.int .i64 0) (.int .i64 0) (.slice none 0 0)
          have hset := Res.set HB1.out (Nat.le_refl _) (.int .i64 0) (.int .i64 0) (.slice none 0 0)
          refine bodyPost_ret (v := .tuple #[batV 0 0 none 0 0, .int .i64 0, .int .i64 102]) (by simp [results, Tryd.results7, go_sem, s0, s1', s2']) rfl (RRead.no (c := 102) HC.out (by decide) hset)
end Go.Proofs.YtomnkgppldgpkaaDoor

namespace Go.Proofs.YtomnkgppldgpkaaDoor
open Go.RowKit Crc

/-- What the reference's All gives. -/
def RAll (l : List UInt8) (w : World) (e : Ending) (w' : World) : Prop :=
  (∃ A c, e = .returned (.tuple #[.slice A (Rc.all l).1.length c, .int .i64 ((Rc.all l).2.1 : Nat), .int .i64 ((Rc.all l).2.2 : Nat)]) ∧ (Rc.all l).1.length ≤ c ∧ c ≤ 9223372036854775807 ∧ Bats w' A (Rc.all l).1) ∧ Below w.heap.size w w'
set_option maxRecDepth 100000 in
set_option maxHeartbeats 2000000 in
theorem rall_any (A : Option Addr) (cap n : Nat) (l : List UInt8) (w : World) (hn : l.length = n) (hl : n ≤ 900000) (ha : Arg w A cap l) :
    Calls Tryd.prog 9 #[.slice A n cap] w (RAll l w) := by
  subst hn
  have HA := hide ha
  have HL := hide hl
  clear ha
  go_enter Tryd.func9, Tryd.ntmps9
  go_wp2_with fail
  go_loopw [5, 6] (fun v i wr => ∃ (at_ : Nat) (qs : List PBat), i = .int .i64 at_ ∧ at_ ≤ l.length ∧ BRow wr w.heap.size v qs ∧ qs.length ≤ at_ ∧ Below w.heap.size w wr ∧ Rc.allGo l (l.length - at_) at_ (qs.map (·.b)) = Rc.all l) (fun _ i _ => l.length - (intOf i).toNat)
  case atStart => exact ⟨0, [], rfl, Nat.zero_le _, BRow.nil _ _, by simp, Below.refl _ _, rfl⟩
  case round =>
    obtain ⟨at_, qs, rfl, hat, hrow, hqa, hb, hgo⟩ := hrel
    have HRW := hide hrow
    have HBK := hide hb
    have HGO := hide hgo
    have hl' := hl
    clear hgo hb
    by_cases hlt : at_ < l.length
    · have kcut : ∀ W, (Instr.sliceAt 22 (.slice A l.length cap) (some (.int .i64 (at_ : Int))) none none).run Tryd.prog W = .ok (.slice (cutA A cap at_) (l.length - at_) (cap - at_)) W := fun W => run_cut_l W A l.length cap at_ hat
      have HRD := hide (rread_any (cutA A cap at_) (cap - at_) (l.length - at_) (l.drop at_) wr (by rw [List.length_drop]) (by omega) ((HA.out.below HBK.out (Nat.le_refl _)).cut at_ hat))
      have HSTEP : Hid (Rc.all l = if Rc.rcode (l.drop at_) = 0 then Rc.allGo l (l.length - at_ - 1) (at_ + Rc.rsize (l.drop at_)) (qs.map (·.b) ++ [Rc.parse (Rc.rbody (l.drop at_))]) else (qs.map (·.b), at_, Rc.rcode (l.drop at_))) := by
        show _ = _
        rw [← HGO.out, show l.length - at_ = (l.length - at_ - 1) + 1 by omega, Rc.allGo, if_pos hlt]
        rfl
      have HRS := hide (Rc.rsize_le (l.drop at_))
      generalize hA' : cutA A cap at_ = A' at *
      clear hA' hrow
      obtain ⟨Av, cv, rfl, hqc, hqm, hbats⟩ := HRW.out.val
      by_cases hc : Rc.rcode (l.drop at_) = 0
      · have hrs := HRS.out hc
        rw [List.length_drop] at hrs
        have HALL : Hid (Rc.allGo l (l.length - (at_ + Rc.rsize (l.drop at_))) (at_ + Rc.rsize (l.drop at_)) (qs.map (·.b) ++ [Rc.parse (Rc.rbody (l.drop at_))]) = Rc.all l) := by
          show _ = _
          rw [HSTEP.out, if_pos hc]
          exact Rc.allGo_fuel _ _ _ _ _ (by omega) (by omega)
        unfold RRead at HRD
        have hcc := hide hc
        rw [hc] at HRD
        clear HSTEP HRS
        generalize Rc.rsize (l.drop at_) = rs at *
        generalize Rc.parse (Rc.rbody (l.drop at_)) = nb at *
        clear hc
        go_wp2_with fail
        refine HRD.out.mono ?_
        rintro e w3 ⟨⟨val, rfl, hy, -⟩, hb3⟩
        obtain ⟨An, cn, rfl, hnew⟩ := hy trivial
        have HNEW := hide hnew
        have hz3 := hb3.size
        clear hy hnew HRD kcut
        go_upto_region 5 with fail
        obtain ⟨k0, k1, k2⟩ := made3 w3 (.int .i64 nb.base) (.int .i64 nb.epoch) (.slice An nb.recs.length cn) 26
        have hal : Below w3.heap.size w3 (w3.alloc (.cells #[.int .i64 nb.base, .int .i64 nb.epoch, .slice An nb.recs.length cn] 26)) := balloc (Below.refl _ _) _
        have HR4 := hide ((HRW.out.below hb3).below hal)
        have HB4 := hide (HBK.out.trans ((hb3.trans (hal.mono hz3)).mono HBK.out.size))
        have HAB4 := hide (Above.of_below (lo := wr.heap.size) hal)
        have hlt4 : w3.heap.size < (w3.alloc (.cells #[.int .i64 nb.base, .int .i64 nb.epoch, .slice An nb.recs.length cn] 26)).heap.size := by simp
        obtain ⟨gb, hgb⟩ : ∃ gb, gb = w3.heap.size := ⟨_, rfl⟩
        rw [← hgb] at k0 k1 k2 ⊢
        have HZ4 := hide (show wr.heap.size ≤ (w3.alloc (.cells #[.int .i64 nb.base, .int .i64 nb.epoch, .slice An nb.recs.length cn] 26)).heap.size by omega)
        clear hal hgb hb3 hlt4
        generalize w3.alloc (.cells #[.int .i64 nb.base, .int .i64 nb.epoch, .slice An nb.recs.length cn] 26) = w4 at *
        obtain ⟨i0, hi, hz, hs1, hby⟩ := info_parts batch_info
        have HBAL : Hid (Below w4.heap.size w4 (w4.alloc (.cells #[.int .i64 nb.base, .int .i64 nb.epoch, .slice An nb.recs.length cn] 26))) := hide (balloc (Below.refl _ _) _)
        go_wp2_with (at_builtin; refine wpList_append_own_at (w := w4.alloc _) rfl (.tmp 27) (.tmp 29) 33 rfl w.heap.size 26 i0 _ 3 40 Tryd.underlying33 hi hz hs1 hby rfl (by omega) (.slice Av qs.length cv) qs.length (qs.flatMap PBat.cells) rfl (HR4.out.own.alloc _) ⟨w4.heap.size, 0, none⟩ 1 1 (PBat.cells ⟨nb, An, cn⟩) rfl rfl (cells_three _ _ _ _ _) (PBat.cells_one _) (by simp only [maxLen]; omega) (by omega) (by have := HB4.out.size; simp; omega) ?_; intro v5 w5 hown5 hg5 hnil5 hat5; have HROW5 := hide (HR4.out.app (q := ⟨nb, An, cn⟩) HNEW.out HAB4.out (fun k hk => (HRW.out.own.lt k hk).2) HBAL.out hg5 hat5 hown5); have HB5 := hide (HB4.out.trans ((HBAL.out.mono HB4.out.size).trans ((Below.refl w.heap.size _).grown hg5 (by have := HB4.out.size; simp; omega) (fun k hk => (HRW.out.own.lt k hk).1)))); clear hown5 hg5 hnil5 hat5)
        refine ⟨⟨at_ + rs, qs ++ [⟨nb, An, cn⟩], by go_num, by omega, HROW5.out, by simp; omega, HB5.out, ?_⟩, by simp [intOf]; omega⟩
        rw [List.map_append]
        exact HALL.out
      · have HALL : Hid (Rc.all l = (qs.map (·.b), at_, Rc.rcode (l.drop at_))) := by show _ = _; rw [HSTEP.out, if_neg hc]
        unfold RRead at HRD
        have hcc := hide hc
        clear HSTEP HRS
        generalize Rc.rcode (l.drop at_) = rcd at *
        have hne : ((rcd : Int) != 0) = true := by simp; omega
        go_wp2_with fail
        refine HRD.out.mono ?_
        rintro e w3 ⟨⟨val, rfl, -, hno⟩, hb3⟩
        obtain rfl := hno hcc.out
        have hz3 := hb3.size
        clear hno HRD kcut
        go_upto_region 5 with fail
        have hal : Below w3.heap.size w3 (w3.alloc (.cells #[.int .i64 0, .int .i64 0, .slice none 0 0] 26)) := balloc (Below.refl _ _) _
        have hb4 := hb3.trans (hal.mono hz3)
        have HR4 := hide (HRW.out.below hb4)
        have HB4 := hide (HBK.out.trans (hb4.mono HBK.out.size))
        clear hal hb4 hb3
        generalize w3.alloc (.cells #[.int .i64 0, .int .i64 0, .slice none 0 0] 26) = w4 at *
        go_wp2_with fail
        go_ret3
        obtain ⟨Ax, cx, hv, hc1, hc2, hbx⟩ := HR4.out.val
        injection hv with hv1 hv2 hv3
        subst hv1 hv3
        refine ⟨⟨Av, cv, ?_, ?_, hc2, ?_⟩, HB4.out⟩
        · rw [HALL.out]
          simp
        · rw [HALL.out]; simpa using hc1
        · rw [HALL.out]; exact hbx
    · obtain rfl : at_ = l.length := by omega
      have HALL : Hid (Rc.all l = (qs.map (·.b), l.length, 0)) := by
        show _ = _
        rw [← HGO.out, Nat.sub_self]; rfl
      obtain ⟨Av, cv, rfl, hqc, hqm, hbats⟩ := HRW.out.val
      have HBT := hide hbats
      clear hbats hrow
      go_wp2_with fail
      go_ret3
      refine ⟨⟨Av, cv, ?_, ?_, hqm, ?_⟩, HBK.out⟩
      · rw [HALL.out]
        simp
      · rw [HALL.out]; simpa using hqc
      · rw [HALL.out]; exact HBT.out
end Go.Proofs.YtomnkgppldgpkaaDoor
