/-
  The walk through rec's Read.
-/
import Derived.Test.YtcmgppacipdnaaaGreatDoorQRcN
import Derived.RegionTactic
import Derived.ChangeAlike
import Derived.BigRegion
namespace Go.Proofs.YtcmgppacipdnaaaGreatDoor
open Go.RowKit Crc

namespace Rc
def rn (l : List UInt8) : Nat := Vi.little (l.take 4)
def rsum (l : List UInt8) : Nat := Vi.little ((l.drop 4).take 4)
def rbody (l : List UInt8) : List UInt8 := (l.drop 8).take (rn l)
/-- Why there is no batch at l's beginning. -/
def rcode (l : List UInt8) : Nat :=
  if l.length < 8 then 101
  else if 65536 < rn l then 104
  else if l.length - 8 < rn l then 101
  else if sumN (rbody l) ≠ rsum l then 102
  else if okay (rbody l) = true then 0 else 103
def rsize (l : List UInt8) : Nat := if rcode l = 0 then 8 + rn l else 0
theorem rn_lt (l : List UInt8) : rn l < 4294967296 := by
  have h := little_lt (l.take 4)
  have h2 : (l.take 4).length ≤ 4 := by rw [List.length_take]; omega
  refine Nat.lt_of_lt_of_le h (Nat.le_trans (Nat.pow_le_pow_right (by omega) (show 8 * (l.take 4).length ≤ 32 by omega)) (by decide))
theorem rsum_lt (l : List UInt8) : rsum l < 4294967296 := by
  have h := little_lt ((l.drop 4).take 4)
  have h2 : ((l.drop 4).take 4).length ≤ 4 := by rw [List.length_take]; omega
  refine Nat.lt_of_lt_of_le h (Nat.le_trans (Nat.pow_le_pow_right (by omega) (show 8 * ((l.drop 4).take 4).length ≤ 32 by omega)) (by decide))
end Rc
/-- What Read gives. -/
def ReadPost (p : Nat → Addr) (l : List UInt8) (w : World) (e : Ending) (w' : World) : Prop :=
  (∃ val, e = .returned (.tuple #[val, .int .i64 (Rc.rsize l : Nat), errOf p (Rc.rcode l)]) ∧ (Rc.rcode l = 0 → ∃ A c, val = batV (Rc.parse (Rc.rbody l)).base (Rc.parse (Rc.rbody l)).epoch A (Rc.parse (Rc.rbody l)).recs.length c ∧ NewBat w.heap.size w' A c (Rc.parse (Rc.rbody l))) ∧ (Rc.rcode l ≠ 0 → val = batV 0 0 none 0 0)) ∧ Below w.heap.size w w'
theorem ReadPost.no {p : Nat → Addr} {l : List UInt8} {w w' : World} {c : Nat} (h : Rc.rcode l = c) (h0 : c ≠ 0) (hb : Below w.heap.size w w') : ReadPost p l w (.returned (.tuple #[batV 0 0 none 0 0, .int .i64 0, errV (p (c - 101))])) w' := by
  have hs : Rc.rsize l = 0 := by unfold Rc.rsize; rw [if_neg (by omega)]
  have he : errOf p (Rc.rcode l) = errV (p (c - 101)) := by unfold errOf; rw [h, if_neg h0]
  refine ⟨⟨batV 0 0 none 0 0, by rw [hs, he]; rfl, fun h' => absurd (h.symm.trans h') h0, fun _ => rfl⟩, hb⟩

theorem ReadPost.yes {p : Nat → Addr} {l : List UInt8} {w w' : World} {A : Option Addr} {c : Nat} (h : Rc.rcode l = 0) (hi : NewBat w.heap.size w' A c (Rc.parse (Rc.rbody l))) (hb : Below w.heap.size w w') : ReadPost p l w (.returned (.tuple #[batV (Rc.parse (Rc.rbody l)).base (Rc.parse (Rc.rbody l)).epoch A (Rc.parse (Rc.rbody l)).recs.length c, .int .i64 (8 + (Rc.rn l : Int)), .nilIface])) w' := by
  have hs : Rc.rsize l = 8 + Rc.rn l := by unfold Rc.rsize; rw [if_pos h]
  have he : errOf p (Rc.rcode l) = .nilIface := by unfold errOf; rw [h, if_pos rfl]
  refine ⟨⟨batV (Rc.parse (Rc.rbody l)).base (Rc.parse (Rc.rbody l)).epoch A (Rc.parse (Rc.rbody l)).recs.length c, by rw [hs, he]; rfl, fun _ => ⟨A, c, rfl, hi⟩, fun h' => absurd h h'⟩, hb⟩

/-- The result's block: three cells, all nothing. -/
structure Res (w : World) (g : Nat) : Prop where
  c0 : w.cell? ⟨g, 0, none⟩ = some (.int .i64 0)
  c1 : w.cell? ⟨g, 1, none⟩ = some (.int .i64 0)
  c2 : w.cell? ⟨g, 2, none⟩ = some (.slice none 0 0)
  f : ∀ k, w.frozen? ⟨g, k, none⟩ = false
theorem Res.new (w : World) (t : TypeId) : Res (w.alloc (.cells #[.int .i64 0, .int .i64 0, .slice none 0 0] t)) w.heap.size := by
  obtain ⟨m0, m1, m2⟩ := made3 w (.int .i64 0) (.int .i64 0) (.slice none 0 0) t
  exact ⟨m0, m1, m2, fun k => by simp [go_sem]⟩
theorem Res.below {w w' : World} {g C : Nat} (h : Res w g) (hb : Below C w w') (hg : g < C) : Res w' g :=
  ⟨(hb.cell (p := ⟨g, 0, none⟩) hg).trans h.c0, (hb.cell (p := ⟨g, 1, none⟩) hg).trans h.c1, (hb.cell (p := ⟨g, 2, none⟩) hg).trans h.c2, fun k => (hb.frozen (p := ⟨g, k, none⟩) hg).trans (h.f k)⟩
theorem Res.cells {w : World} {g : Nat} (h : Res w g) (x0 x1 x2 : Value) :
    (((w.setCell ⟨g, 0, none⟩ x0).setCell ⟨g, 1, none⟩ x1).setCell ⟨g, 2, none⟩ x2).cell? ⟨g, 0, none⟩ = some x0 ∧ (((w.setCell ⟨g, 0, none⟩ x0).setCell ⟨g, 1, none⟩ x1).setCell ⟨g, 2, none⟩ x2).cell? ⟨g, 1, none⟩ = some x1 ∧ (((w.setCell ⟨g, 0, none⟩ x0).setCell ⟨g, 1, none⟩ x1).setCell ⟨g, 2, none⟩ x2).cell? ⟨g, 2, none⟩ = some x2 := by
  refine ⟨?_, ?_, ?_⟩
  · rw [World.cell?_setCell_other _ _ _ _ (by simp), World.cell?_setCell_other _ _ _ _ (by simp)]; exact World.cell?_setCell_same _ _ _ h.c0
  · rw [World.cell?_setCell_other _ _ _ _ (by simp)]
    exact World.cell?_setCell_same _ _ _ ((World.cell?_setCell_other _ _ _ _ (by simp)).trans h.c1)
  · exact World.cell?_setCell_same _ _ _ (((World.cell?_setCell_other _ _ _ _ (by simp)).trans (World.cell?_setCell_other _ _ _ _ (by simp))).trans h.c2)
theorem Res.set {w0 w : World} {g : Nat} (h : Below w0.heap.size w0 w) (hg : w0.heap.size ≤ g) (x0 x1 x2 : Value) : Below w0.heap.size w0 (((w.setCell ⟨g, 0, none⟩ x0).setCell ⟨g, 1, none⟩ x1).setCell ⟨g, 2, none⟩ x2) := by
  have hr : ∀ k, some g = some k → w0.heap.size ≤ k := fun k e => by injection e with e; omega
  have g1 := grown_set w g 0 x0
  have g2 := grown_set (w.setCell ⟨g, 0, none⟩ x0) g 1 x1
  have g3 := grown_set ((w.setCell ⟨g, 0, none⟩ x0).setCell ⟨g, 1, none⟩ x1) g 2 x2
  have s1 := g1.size
  have s2 := g2.size
  have s0 := h.size
  exact ((h.grown g1 s0 hr).grown g2 (by omega) hr).grown g3 (by omega) hr

set_option maxRecDepth 100000 in
set_option maxHeartbeats 2000000 in
theorem read_any (A : Option Addr) (cap n : Nat) (l : List UInt8) (w : World) (p : Nat → Addr) (hn : l.length = n) (hl : n ≤ 1000000) (ha : Arg w A cap l) (hs : Sents5 w p) (ht : Tabs w) :
    Calls Tryz.prog 161 #[.slice A n cap] w (ReadPost p l w) := by
  subst hn
  obtain ⟨w1, hw1⟩ : ∃ w1, w1 = w.alloc (.cells #[.int .i64 0, .int .i64 0, .slice none 0 0] 36) := ⟨_, rfl⟩
  have hb1 : Below w.heap.size w w1 := hw1 ▸ balloc (Below.refl _ _) _
  have hres : Res w1 w.heap.size := hw1 ▸ Res.new w 36
  have hz1 : w1.heap.size = w.heap.size + 1 := by rw [hw1]; simp
  have HS := hide (hs.below hb1)
  have HSZ := hide (fun j (hj : j < 5) => hs.size j hj)
  have HT := hide (ht.below hb1 (Nat.le_refl _))
  have HA := hide (ha.below hb1 (Nat.le_refl _))
  have HB1 := hide hb1
  have HW1 := hide hw1
  clear ha hs ht hb1 hw1
  go_enter Tryz.func161, Tryz.ntmps161
  go_upto_region 1 with fail
  rw [← HW1.out]
  have HRES := hide hres
  have r0 := hres.c0
  have r1 := hres.c1
  have r2 := hres.c2
  have rf0 := hres.f 0
  have rf1 := hres.f 1
  have rf2 := hres.f 2
  clear HW1 hres
  by_cases h8 : l.length < 8
  · have HC : Hid (Rc.rcode l = 101) := by show _ = _; unfold Rc.rcode; rw [if_pos h8]
    have k0 := HS.out.cell 0 (by omega)
    change w1.cell? ⟨8, 0, none⟩ = some (errV (p 0)) at k0
    have kz : 8 < w.heap.size := HSZ.out 0 (by omega)
    have k0' : (w1.setCell ⟨w.heap.size, 0, none⟩ (.int .i64 0)).cell? ⟨8, 0, none⟩ = some (errV (p 0)) := (World.cell?_setCell_other _ _ _ _ (by intro e; injection e with e; omega)).trans k0
    unfold errV at k0 k0'
    go_upto_region 2 with fail
    go_region
    go_wp2_with fail
    obtain ⟨s0, s1', s2'⟩ := HRES.out.cells (.int .i64 0) (.int .i64 0) (.slice none 0 0)
    have hset := Res.set HB1.out (Nat.le_refl _) (.int .i64 0) (.int .i64 0) (.slice none 0 0)
    refine bodyPost_ret (v := .tuple #[batV 0 0 none 0 0, .int .i64 0, errV (p 0)]) (by simp [results, Tryz.results161, go_sem, s0, s1', s2', errV]) rfl (ReadPost.no HC.out (by omega) hset.drew)
  · have hcap := HA.out.le
    have kcut : ∀ W, (Instr.sliceAt 67 (.slice A l.length cap) none (some (.int .i64 8)) none).run Tryz.prog W = .ok (.slice A 8 cap) W := fun W => run_cut_h W A l.length cap 8 (by omega)
    have HNW := hide (newReader_any A cap 8 (l.take 8) w1 p (by rw [List.length_take]; omega) (by omega) (HA.out.first 8))
    have hf1 : Vi.fixed (l.take 8) start 4 = (Rc.rn l, ⟨4, 0, none⟩) := by
      unfold Vi.fixed
      rw [if_neg (by simp [start]), if_neg (by rw [List.length_take]; simp [start]; omega)]
      simp [start, Rc.rn, Vi.Rs.on, List.take_take]
    have hf2 : Vi.fixed (l.take 8) ⟨4, 0, none⟩ 4 = (Rc.rsum l, ⟨8, 0, none⟩) := by
      unfold Vi.fixed
      rw [if_neg (by simp), if_neg (by rw [List.length_take]; simp; omega)]
      simp [Rc.rsum, Vi.Rs.on, List.drop_take, List.take_take]
    have HF1 := hide hf1
    have HF2 := hide hf2
    have HL8 : Hid ((l.take 8).length = 8) := by show _ = _; rw [List.length_take]; omega
    clear hf1 hf2
    go_wp2_with fail
    refine HNW.out.mono ?_
    rintro e w2 ⟨g, rfl, hg, hr2, hb2⟩
    have HR2 := hide hr2
    have HB2 := hide hb2
    have HG := hide hg
    clear hr2 hb2 hg HNW kcut
    have HX1 := hide (fixed_any w2 p g (l.take 8) start 4 (by omega) (by omega) HR2.out (HS.out.below HB2.out) (by rw [HL8.out]; omega))
    rw [HF1.out] at HX1
    have hn1 := Rc.rn_lt l
    have hn2 := Rc.rsum_lt l
    have HCODE : Hid (Rc.rcode l = if 65536 < Rc.rn l then 104 else if l.length - 8 < Rc.rn l then 101 else if Rc.sumN (Rc.rbody l) ≠ Rc.rsum l then 102 else if Rc.okay (Rc.rbody l) = true then 0 else 103) := by
      show _ = _
      unfold Rc.rcode
      rw [if_neg h8]
    have HBD : Hid (Rc.rbody l = (l.drop 8).take (Rc.rn l)) := hide rfl
    have HSZE : Hid (Rc.rsize l = if Rc.rcode l = 0 then 8 + Rc.rn l else 0) := hide rfl
    generalize hrn : Rc.rn l = rn at *
    have HRN := hide hrn
    clear hrn
    generalize Rc.rsum l = rsum at *
    go_wp2_with fail
    refine HX1.out.mono ?_
    rintro e w3 ⟨rfl, hr3, hb3⟩
    have hb3' : Below w1.heap.size w1 w3 := HB2.out.grown hb3.grown HB2.out.size (fun k hk => by injection hk with hk; have := HG.out; omega)
    have HX2 := hide (fixed_any w3 p g (l.take 8) ⟨4, 0, none⟩ 4 (by omega) (by omega) hr3 (HS.out.below hb3') (by rw [HL8.out]; omega))
    rw [HF2.out] at HX2
    have HB3 := hide hb3'
    clear hr3 hb3 hb3' HX1 HR2 HB2
    go_wp2_with fail
    refine HX2.out.mono ?_
    rintro e w4 ⟨rfl, hr4, hb4⟩
    have hb4' : Below w1.heap.size w1 w4 := HB3.out.grown hb4.grown HB3.out.size (fun k hk => by injection hk with hk; have := HG.out; omega)
    have HB4 := hide hb4'
    have hres4 := HRES.out.below hb4' (by omega)
    have HRES4 := hide hres4
    have HS4 := hide (HS.out.below hb4')
    have HW4 := hide (HB1.out.trans (hb4'.mono (by omega)))
    have r0 := hres4.c0
    have r1 := hres4.c1
    have r2 := hres4.c2
    have rf0 := hres4.f 0
    have rf1 := hres4.f 1
    have rf2 := hres4.f 2
    clear hr4 hb4 hb4' HX2 HB3 hres4 HF1 HF2
    by_cases hm : 65536 < rn
    · have HC : Hid (Rc.rcode l = 104) := by show _ = _; rw [HCODE.out, if_pos hm]
      have k0 := HS4.out.cell 3 (by omega)
      change w4.cell? ⟨5, 0, none⟩ = some (errV (p 3)) at k0
      have kz : 5 < w.heap.size := HSZ.out 3 (by omega)
      have k0' : (w4.setCell ⟨w.heap.size, 0, none⟩ (.int .i64 0)).cell? ⟨5, 0, none⟩ = some (errV (p 3)) := (World.cell?_setCell_other _ _ _ _ (by intro e; injection e with e; omega)).trans k0
      unfold errV at k0 k0'
      go_upto_region 7 with fail
      go_region
      go_wp2_with fail
      obtain ⟨s0, s1', s2'⟩ := HRES4.out.cells (.int .i64 0) (.int .i64 0) (.slice none 0 0)
      have hset := Res.set HW4.out (Nat.le_refl _) (.int .i64 0) (.int .i64 0) (.slice none 0 0)
      refine bodyPost_ret (v := .tuple #[batV 0 0 none 0 0, .int .i64 0, errV (p 3)]) (by simp [results, Tryz.results161, go_sem, s0, s1', s2', errV]) rfl (ReadPost.no HC.out (by omega) hset.drew)
    · by_cases he : l.length - 8 < rn
      · have HC : Hid (Rc.rcode l = 101) := by show _ = _; rw [HCODE.out, if_neg hm, if_pos he]
        have hd : decide (((l.length : Int) - 8) < (rn : Int)) = true := by simp; omega
        have k0 := HS4.out.cell 0 (by omega)
        change w4.cell? ⟨8, 0, none⟩ = some (errV (p 0)) at k0
        have kz : 8 < w.heap.size := HSZ.out 0 (by omega)
        have k0' : (w4.setCell ⟨w.heap.size, 0, none⟩ (.int .i64 0)).cell? ⟨8, 0, none⟩ = some (errV (p 0)) := (World.cell?_setCell_other _ _ _ _ (by intro e; injection e with e; omega)).trans k0
        unfold errV at k0 k0'
        go_upto_region 9 with fail
        go_region
        go_wp2_with fail
        obtain ⟨s0, s1', s2'⟩ := HRES4.out.cells (.int .i64 0) (.int .i64 0) (.slice none 0 0)
        have hset := Res.set HW4.out (Nat.le_refl _) (.int .i64 0) (.int .i64 0) (.slice none 0 0)
        refine bodyPost_ret (v := .tuple #[batV 0 0 none 0 0, .int .i64 0, errV (p 0)]) (by simp [results, Tryz.results161, go_sem, s0, s1', s2', errV]) rfl (ReadPost.no HC.out (by omega) hset.drew)
      · have hd : decide (((l.length : Int) - 8) < (rn : Int)) = false := by simp; omega
        have kcut2 : ∀ W, (Instr.sliceAt 67 (.slice A l.length cap) (some (.int .i64 8)) (some (.int .i64 (8 + (rn : Int)))) none).run Tryz.prog W = .ok (.slice (cutA A cap 8) rn (cap - 8)) W := fun W => by
          have h := run_cut_lh W A l.length cap 8 (8 + rn) (by omega) (by omega)
          rw [show 8 + rn - 8 = rn by omega, Int.natCast_add] at h
          exact h
        have HAB := hide ((HA.out.cut 8 (by omega)).first rn)
        rw [← HBD.out] at HAB
        have HBL : Hid ((Rc.rbody l).length = rn) := by show _ = _; rw [HBD.out, List.length_take, List.length_drop]; omega
        have HCODE2 : Hid (Rc.rcode l = if Rc.sumN (Rc.rbody l) ≠ rsum then 102 else if Rc.okay (Rc.rbody l) = true then 0 else 103) := by
          show _ = _
          rw [HCODE.out, if_neg hm, if_neg he]
        have hsl := Rc.sumN_lt (Rc.rbody l)
        have HRX := hide (sum_one (cutA A cap 8) (cap - 8) (Rc.rbody l))
        have HUN := hide (fun W (hw : Below w1.heap.size w1 W) => unlay_any (cutA A cap 8) (cap - 8) rn (Rc.rbody l) W p HBL.out (by omega) (HAB.out.below hw (Nat.le_refl _)) (HS.out.below hw))
        clear HCODE
        generalize hbd : Rc.rbody l = bd at *
        have HEB := hide hbd
        clear hbd
        generalize cutA A cap 8 = A' at *
        go_upto_region 12 with fail
        have HRA := hide (HAB.out.below HB4.out (Nat.le_refl _))
        have HOF := hide (of_at (some ⟨w4.heap.size, 0, none⟩) 1 1 [⟨A', cap - 8, bd⟩] (w4.alloc (.cells #[.slice A' rn (cap - 8)] 67)) rfl (by omega) (readsAll_slice _ _ _ _ _ _ _ HBL.out rfl HRA.out.reads (by omega)) (HT.out.below (HB4.out.trans ((balloc (Below.refl _ _) _).mono HB4.out.size)) (Nat.le_refl _)))
        rw [HRX.out] at HOF
        have hba : Below w1.heap.size w1 (w4.alloc (.cells #[.slice A' rn (cap - 8)] 67)) := HB4.out.trans ((balloc (Below.refl _ _) _).mono HB4.out.size)
        have HBA := hide hba
        clear hba kcut2
        generalize hsn : Rc.sumN bd = sn at *
        by_cases hne : sn = rsum
        · subst hne
          have hdn : ((sn : Int) != sn) = false := by simp
          go_wp2_with fail
          refine HOF.out.mono ?_
          rintro e w5 ⟨rfl, q, rfl⟩
          have hb5 := below_drewN HBA.out q
          have HB5 := hide hb5
          have HZ5 : Hid (w1.heap.size ≤ ((w4.alloc (.cells #[.slice A' rn (cap - 8)] 67)).drewN q).heap.size) := hide hb5.size
          clear hb5 HOF HBA r0 r1 r2 rf0 rf1 rf2 HRES4 HW4 HB4 HS4
          generalize (w4.alloc (.cells #[.slice A' rn (cap - 8)] 67)).drewN q = w5 at *
          go_wp2_with fail
          refine (HUN.out _ HB5.out).mono ?_
          rintro e w6 ⟨⟨val, rfl, hy, hno⟩, hb6⟩
          have hb6' := HB5.out.trans (hb6.mono HB5.out.size)
          have hres6 := HRES.out.below hb6' (by omega)
          have HB6 := hide hb6'
          clear hb6 hb6' hres6 HUN HB5
          by_cases hok : Rc.okay bd = true
          · have HC : Hid (Rc.rcode l = 0) := by show _ = _; rw [HCODE2.out, if_neg (by simp), if_pos hok]
            obtain ⟨Ar, cr, rfl, hib⟩ := hy hok
            rw [hok]
            clear hy hno
            go_upto_region 15 with fail
            obtain ⟨x0, x1, x2⟩ := made3 w6 (.int .i64 (Rc.parse bd).base) (.int .i64 (Rc.parse bd).epoch) (.slice Ar (Rc.parse bd).recs.length cr) 36
            have hal : Below w6.heap.size w6 (w6.alloc (.cells #[.int .i64 (Rc.parse bd).base, .int .i64 (Rc.parse bd).epoch, .slice Ar (Rc.parse bd).recs.length cr] 36)) := balloc (Below.refl _ _) _
            have hb7 := HB6.out.trans (hal.mono HB6.out.size)
            have hres7 := HRES.out.below hb7 (by omega)
            have HRES7 := hide hres7
            have HW7 := hide (HB1.out.trans (hb7.mono (by omega)))
            have HIB := hide (hib.above (Above.of_below hal))
            have r0 := hres7.c0
            have r1 := hres7.c1
            have r2 := hres7.c2
            have rf0 := hres7.f 0
            have rf1 := hres7.f 1
            have rf2 := hres7.f 2
            clear hal hb7 hres7 hib
            generalize w6.alloc (.cells #[.int .i64 (Rc.parse bd).base, .int .i64 (Rc.parse bd).epoch, .slice Ar (Rc.parse bd).recs.length cr] 36) = w7 at *
            have hw5 : w.heap.size < w5.heap.size := by have := HZ5.out; omega
            go_wp2_with fail
            obtain ⟨s0, s1', s2'⟩ := HRES7.out.cells (.int .i64 (Rc.parse bd).base) (.int .i64 (Rc.parse bd).epoch) (.slice Ar (Rc.parse bd).recs.length cr)
            have hset := Res.set HW7.out (Nat.le_refl _) (.int .i64 (Rc.parse bd).base) (.int .i64 (Rc.parse bd).epoch) (.slice Ar (Rc.parse bd).recs.length cr)
            have hnb := ((HIB.out.above (Above.of_grown (grown_set _ w.heap.size 0 (.int .i64 (Rc.parse bd).base)) hw5)).above (Above.of_grown (grown_set _ w.heap.size 1 (.int .i64 (Rc.parse bd).epoch)) hw5)).above (Above.of_grown (grown_set _ w.heap.size 2 (.slice Ar (Rc.parse bd).recs.length cr)) hw5)
            have hpost := ReadPost.yes (p := p) HC.out (by rw [HEB.out]; exact hnb.mono (Nat.le_of_lt hw5)) hset
            rw [HEB.out, HRN.out] at hpost
            exact bodyPost_ret (v := .tuple #[batV (Rc.parse bd).base (Rc.parse bd).epoch Ar (Rc.parse bd).recs.length cr, .int .i64 (8 + (rn : Int)), .nilIface]) (by simp [results, Tryz.results161, go_sem, s0, s1', s2']) rfl hpost
          · have HC : Hid (Rc.rcode l = 103) := by show _ = _; rw [HCODE2.out, if_neg (by simp), if_neg hok]
            have hokf : Rc.okay bd = false := by simpa using hok
            obtain rfl := hno hokf
            rw [hokf]
            clear hy hno
            go_upto_region 15 with fail
            have hal : Below w6.heap.size w6 (w6.alloc (.cells #[.int .i64 0, .int .i64 0, .slice none 0 0] 36)) := balloc (Below.refl _ _) _
            have hb7 := HB6.out.trans (hal.mono HB6.out.size)
            have hres7 := HRES.out.below hb7 (by omega)
            have HRES7 := hide hres7
            have HW7 := hide (HB1.out.trans (hb7.mono (by omega)))
            have HS7 := hide (HS.out.below hb7)
            have r0 := hres7.c0
            have r1 := hres7.c1
            have r2 := hres7.c2
            have rf0 := hres7.f 0
            have rf1 := hres7.f 1
            have rf2 := hres7.f 2
            clear hal hb7 hres7
            generalize w6.alloc (.cells #[.int .i64 0, .int .i64 0, .slice none 0 0] 36) = w7 at *
            have k0 := HS7.out.cell 2 (by omega)
            change w7.cell? ⟨2, 0, none⟩ = some (errV (p 2)) at k0
            have kz : 2 < w.heap.size := HSZ.out 2 (by omega)
            have k0' : (w7.setCell ⟨w.heap.size, 0, none⟩ (.int .i64 0)).cell? ⟨2, 0, none⟩ = some (errV (p 2)) := (World.cell?_setCell_other _ _ _ _ (by intro e; injection e with e; omega)).trans k0
            unfold errV at k0 k0'
            go_upto_region 16 with fail
            go_region
            go_wp2_with fail
            obtain ⟨s0, s1', s2'⟩ := HRES7.out.cells (.int .i64 0) (.int .i64 0) (.slice none 0 0)
            have hset := Res.set HW7.out (Nat.le_refl _) (.int .i64 0) (.int .i64 0) (.slice none 0 0)
            refine bodyPost_ret (v := .tuple #[batV 0 0 none 0 0, .int .i64 0, errV (p 2)]) (by simp [results, Tryz.results161, go_sem, s0, s1', s2', errV]) rfl (ReadPost.no HC.out (by omega) hset.drew)
        · have hdn : ((sn : Int) != rsum) = true := by simp; omega
          have HC : Hid (Rc.rcode l = 102) := by show _ = _; rw [HCODE2.out, if_pos hne]
          go_wp2_with fail
          refine HOF.out.mono ?_
          rintro e w5 ⟨rfl, q, rfl⟩
          have hb5 := below_drewN HBA.out q
          have hres5 := HRES.out.below hb5 (by omega)
          have HRES5 := hide hres5
          have HS5 := hide (HS.out.below hb5)
          have HW5 := hide (HB1.out.trans (hb5.mono (by omega)))
          have r0 := hres5.c0
          have r1 := hres5.c1
          have r2 := hres5.c2
          have rf0 := hres5.f 0
          have rf1 := hres5.f 1
          have rf2 := hres5.f 2
          clear hb5 HOF HBA hres5
          generalize (w4.alloc (.cells #[.slice A' rn (cap - 8)] 67)).drewN q = w5 at *
          have k0 := HS5.out.cell 1 (by omega)
          change w5.cell? ⟨9, 0, none⟩ = some (errV (p 1)) at k0
          have kz : 9 < w.heap.size := HSZ.out 1 (by omega)
          have k0' : (w5.setCell ⟨w.heap.size, 0, none⟩ (.int .i64 0)).cell? ⟨9, 0, none⟩ = some (errV (p 1)) := (World.cell?_setCell_other _ _ _ _ (by intro e; injection e with e; omega)).trans k0
          unfold errV at k0 k0'
          go_upto_region 13 with fail
          go_region
          go_wp2_with fail
          obtain ⟨s0, s1', s2'⟩ := HRES5.out.cells (.int .i64 0) (.int .i64 0) (.slice none 0 0)
          have hset := Res.set HW5.out (Nat.le_refl _) (.int .i64 0) (.int .i64 0) (.slice none 0 0)
          refine bodyPost_ret (v := .tuple #[batV 0 0 none 0 0, .int .i64 0, errV (p 1)]) (by simp [results, Tryz.results161, go_sem, s0, s1', s2', errV]) rfl (ReadPost.no HC.out (by omega) hset.drew)
end Go.Proofs.YtcmgppacipdnaaaGreatDoor
