/-
  The walk through the statement's own function: what both readers answer, ask by ask.
-/
import Derived.Test.YtdiplknlkmealaaDoorRFix
import Derived.Test.YtdiplknlkmealaaDoorArgsA
import Derived.Test.YtdiplknlkmealaaDoorVFirst
import Derived.Test.YtdiplknlkmealaaDoorHSame
import Derived.Deep.RegionHeld3
namespace Go.Proofs.YtdiplknlkmealaaDoor
open Go.RowKit

theorem RRd.new (w : World) (A : Option Addr) (cap : Nat) (l : List UInt8) (h : Arg w A cap l) : RRd (w.alloc (.cells #[.slice A l.length cap, .int .i64 0, .int .i64 0, .bool false, .int .i64 0] 68)) A cap w.heap.size l start := by
  have hb : Below w.heap.size w (w.alloc (.cells #[.slice A l.length cap, .int .i64 0, .int .i64 0, .bool false, .int .i64 0] 68)) := balloc (Below.refl _ _) _
  refine ⟨by simp, fun k => by simp [go_sem], ⟨Nat.zero_le _, .inl ⟨rfl, rfl⟩⟩, ?_, ?_, ?_, ?_, ?_, h.below hb (Nat.le_refl _), fun b off e hl => ?_, fun k hk => ?_⟩
  · rw [World.cell?_alloc_mark]; rfl
  · rw [World.cell?_alloc_mark]; rfl
  · rw [World.cell?_alloc_mark]; rfl
  · rw [World.cell?_alloc_mark]; rfl
  · rw [World.cell?_alloc_mark]; rfl
  · rcases h.reads with h0 | ⟨b', off', e', hlt, _⟩
    · exact absurd h0 hl
    · rw [e] at e'
      injection e' with e'
      injection e' with e1
      omega
  · rw [World.cell?_alloc_mark]
    simp
    omega
theorem but_below {B g : Nat} {w W W' : World} (h : Below B w W) (hb : But g W W') (hg : B ≤ g) (hB : B ≤ W.heap.size) : Below B w W' :=
  h.grown hb hB (fun k hk => by injection hk with hk; omega)

theorem text_len (l : List UInt8) (s : Vi.Rs) (m : Nat) : (Vi.text l s m).1.length ≤ l.length := by
  unfold Vi.text
  simp only
  split
  · simp
  · split
    · simp
    · simp only [List.length_take, List.length_drop]; omega

set_option maxRecDepth 100000 in
set_option maxHeartbeats 2000000 in
theorem vreads_near (a0 a1 : Option Addr) (cap0 cap1 len0 : Nat) (l : List UInt8) (xs : List AskV) (w : World) (p : Nat → Addr) (hs : Sents w p) (h0 : Arg w a0 cap0 l) (h1 : Asks w a1 xs) (hl0 : l.length = len0) (hc1 : xs.length ≤ cap1) (hm1 : cap1 ≤ 9223372036854775807) (hok : ∀ k, k < xs.length → AskOk (xs.getD k default)) (hlen : len0 ≤ 60) (hxl : xs.length ≤ 20) :
    Calls Tryd.prog 10 #[.slice a0 len0 cap0, .slice a1 xs.length cap1] w fun e w' => e = .returned (.bool true) ∧ Below w.heap.size w w' := by
  subst hl0
  have HNW := hide (fun W (hb : Below w.heap.size w W) => newReader_any a0 cap0 l.length l W p rfl (by omega) (h0.below hb (Nat.le_refl _)))
  have HF := hide (vfirst_any w)
  have HS := hide hs
  have HA := hide h0
  have HX := hide h1
  have HOK := hide hok
  have hd1 : decide ((60 : Int) < (l.length : Int)) = false := by simp; omega
  have hd2 : decide ((20 : Int) < (xs.length : Int)) = false := by simp; omega
  have hm : (xs.length : Int) ≤ 9223372036854775807 := by omega
  have HL := hide hlen
  clear hs h0 h1 hok
  go_enter Tryd.func10, Tryd.ntmps10
  go_upto_region 6 with fail
  refine HF.out.mono ?_
  rintro e w1 ⟨rfl, hb1⟩
  have HB1 := hide hb1
  clear hb1 HF
  go_upto_region 6 with fail
  go_upto_region 7 with fail
  refine (HNW.out _ HB1.out).mono ?_
  rintro e w2 ⟨g, rfl, hg, hr2, hb2⟩
  have HG := hide (Nat.le_trans HB1.out.size hg)
  have HR2 := hide hr2
  have HB2 := hide (HB1.out.trans (hb2.mono HB1.out.size))
  clear hg hr2 hb2 HNW HB1
  go_wp2_with fail
  obtain ⟨gx, hgx⟩ : ∃ gx, gx = w2.heap.size := ⟨_, rfl⟩
  have hb3 : Below w2.heap.size w2 (w2.alloc (.cells #[.slice a0 l.length cap0, .int .i64 0, .int .i64 0, .bool false, .int .i64 0] 68)) := balloc (Below.refl _ _) _
  have HX3 := hide (RRd.new w2 a0 cap0 l (HA.out.below HB2.out (Nat.le_refl _)))
  have HR3 := hide (HR2.out.below hb3)
  have HB3 := hide (HB2.out.trans (hb3.mono HB2.out.size))
  have HGX := hide (show g < gx by have := HR2.out.lt; omega)
  clear hb3
  rw [← hgx] at HX3
  rw [← hgx]
  have HNX : Hid (gx < (w2.alloc (.cells #[.slice a0 l.length cap0, .int .i64 0, .int .i64 0, .bool false, .int .i64 0] 68)).heap.size) := hide (HX3.out.lt)
  clear hgx HR2 HB2
  generalize w2.alloc (.cells #[.slice a0 l.length cap0, .int .i64 0, .int .i64 0, .bool false, .int .i64 0] 68) = w3 at *
  go_loopw [8] (fun i wr => ∃ k : Nat, k ≤ xs.length ∧ i = .int .i64 k ∧ (∃ s, Rdr wr p g l s ∧ RRd wr a0 cap0 gx l s) ∧ Below w.heap.size w wr) (fun i _ => xs.length - (intOf i).toNat)
  case atStart => exact ⟨0, Nat.zero_le _, rfl, ⟨_, HR3.out, HX3.out⟩, HB3.out⟩
  case round =>
    obtain ⟨k, hk, rfl, ⟨s, hr, hx⟩, hb⟩ := hrel
    have HRK := hide hr
    have HXK := hide hx
    have HBK := hide hb
    have hne : ¬ gx = g := by have := HGX.out; omega
    clear hr hx hb
    by_cases hlt : k < xs.length
    · rcases HX.out with h0 | ⟨b, off, rfl, hb0, hcl⟩
      · rw [h0] at hlt; simp at hlt
      obtain ⟨c0, c1, c2, c3, c4⟩ := hcl k hlt
      have hok := HOK.out k hlt
      have d0 := (HBK.out.cell (p := ⟨b, off + k * 5, none⟩) hb0).trans c0
      have d1 := (HBK.out.cell (p := ⟨b, off + k * 5 + 1, none⟩) hb0).trans c1
      have d2 := (HBK.out.cell (p := ⟨b, off + k * 5 + 2, none⟩) hb0).trans c2
      have d3 := (HBK.out.cell (p := ⟨b, off + k * 5 + 3, none⟩) hb0).trans c3
      have d4 := (HBK.out.cell (p := ⟨b, off + k * 5 + 4, none⟩) hb0).trans c4
      clear hcl c0 c1 c2 c3 c4
      generalize xs.getD k default = x at *
      obtain ⟨kd, n, a, bb, cc⟩ := x
      simp only at d0 d1 d2 d3 d4
      have HKK := hide hok
      clear hok
      go_upto_block 2 with fail
      obtain ⟨ga, hga⟩ : ∃ ga, ga = wr.heap.size := ⟨_, rfl⟩
      have hbn : Below wr.heap.size wr (wr.alloc (.cells #[.int .i64 kd, .int .i64 n, .int .u64 (a : Int), .int .i64 bb, .int .i64 cc] 70)) := balloc (Below.refl _ _) _
      have HRA := hide (HRK.out.below hbn)
      have HXA := hide (HXK.out.below hbn)
      have HBA := hide (HBK.out.trans (hbn.mono HBK.out.size))
      have k1 : (wr.alloc (.cells #[.int .i64 kd, .int .i64 n, .int .u64 (a : Int), .int .i64 bb, .int .i64 cc] 70)).cell? ⟨wr.heap.size, 1, none⟩ = some (.int .i64 n) := by rw [World.cell?_alloc_mark]; rfl
      have k2 : (wr.alloc (.cells #[.int .i64 kd, .int .i64 n, .int .u64 (a : Int), .int .i64 bb, .int .i64 cc] 70)).cell? ⟨wr.heap.size, 2, none⟩ = some (.int .u64 (a : Int)) := by rw [World.cell?_alloc_mark]; rfl
      have k3 : (wr.alloc (.cells #[.int .i64 kd, .int .i64 n, .int .u64 (a : Int), .int .i64 bb, .int .i64 cc] 70)).cell? ⟨wr.heap.size, 3, none⟩ = some (.int .i64 bb) := by rw [World.cell?_alloc_mark]; rfl
      have k4 : (wr.alloc (.cells #[.int .i64 kd, .int .i64 n, .int .u64 (a : Int), .int .i64 bb, .int .i64 cc] 70)).cell? ⟨wr.heap.size, 4, none⟩ = some (.int .i64 cc) := by rw [World.cell?_alloc_mark]; rfl
      have hgl : ga < (wr.alloc (.cells #[.int .i64 kd, .int .i64 n, .int .u64 (a : Int), .int .i64 bb, .int .i64 cc] 70)).heap.size := by rw [hga]; simp
      have hag : ga ≠ g := by have := HRK.out.lt; omega
      have hagx : ga ≠ gx := by have := HXK.out.lt; omega
      rw [← hga] at k1 k2 k3 k4 ⊢
      clear hbn HRK HXK HBK d0 d1 d2 d3 d4 hga
      generalize wr.alloc (.cells #[.int .i64 kd, .int .i64 n, .int .u64 (a : Int), .int .i64 bb, .int .i64 cc] 70) = wa at *
      have HGL := hide HRA.out.lt
      have HGXL := hide HXA.out.lt
      have HBUT := hide (fun W (hb : But g wa W) => but_below HBA.out hb HG.out HBA.out.size)
      have HXB := hide (fun W (hb : But g wa W) => HXA.out.but hb hne (fun b off e hl => by
        rcases HA.out.reads with h0 | ⟨b', off', e', hlt, _⟩
        · exact absurd h0 hl
        · rw [e] at e'
          injection e' with e'
          injection e' with e1
          have := HG.out
          omega))
      have HFIN : Hid (∀ W7 W8 s', Rdr W7 p g l s' → But g wa W7 → RRd W8 a0 cap0 gx l s' → But gx W7 W8 → Rdr W8 p g l s' ∧ RRd W8 a0 cap0 gx l s' ∧ Below w.heap.size w W8) := hide (fun W7 W8 s' h1 h2 h3 h4 =>
        ⟨h1.butx (HXB.out W7 h2) h4 (fun e => hne e.symm), h3, but_below (HBUT.out W7 h2) h4 (by have := HG.out; have := HGX.out; omega) (HBUT.out W7 h2).size⟩)
      have hdr : But g wa wa.drew := But.of_below (Below.refl wa.heap.size wa).drew
      have HDR := hide hdr
      clear hdr hne
      go_cut [54] (fun _ wx => ∃ s', Rdr wx p g l s' ∧ RRd wx a0 cap0 gx l s' ∧ Below w.heap.size w wx)
      case first =>
        by_cases e1 : kd = 1
        · subst e1
          have HNM := hide (fun W (hb : Below wa.heap.size wa W) => num_any W p g l s a (HRA.out.below hb) (HS.out.below (HBA.out.trans (hb.mono HBA.out.size))) (by have := HL.out; omega))
          have HRM := hide (fun W (hx : RRd W a0 cap0 gx l s) => rnum_any W a0 cap0 gx l s a hx (by have := HL.out; omega))
          generalize Vi.num l s a = T at *
          obtain ⟨v, s'⟩ := T
          simp only at HNM HRM
          have huu : ((v : Int) != v) = false := by simp
          go_upto_region 18 with fail
          go_region_held3 (fun w' => w'.cell? ⟨ga, 2, none⟩ = some (.int .u64 (a : Int))) (go_keep)
            (first
              | (go_at_call 38; (with_reducible refine (HNM.out _ (Below.refl _ _).drew).mono ?_); rintro e w7 ⟨rfl, hr7, hb7⟩; have hk7 : w7.cell? ⟨ga, 2, none⟩ = some (.int .u64 (a : Int)) := (hb7.cell hgl hag).trans k2)
              | (go_at_call 39; (with_reducible refine (HRM.out _ (HXB.out _ (HDR.out.trans hb7))).mono ?_); rintro e w8 ⟨rfl, hx8, hb8⟩; have hk8 : w8.cell? ⟨ga, 2, none⟩ = some (.int .u64 (a : Int)) := (hb8.cell (Nat.lt_of_lt_of_le hgl hb7.size) hagx).trans hk7)
              | fail)
          have HO := hide (HFIN.out _ _ _ hr7 (HDR.out.trans hb7) hx8 hb8)
          clear hr7 hb7 hk7 hx8 hb8 hk8
          go_wp2_with fail
          go_meet
          exact ⟨s', HO.out⟩
        · by_cases e2 : kd = 2
          · subst e2
            have HNM := hide (fun W (hb : Below wa.heap.size wa W) => int_any W p g l s bb cc (HRA.out.below hb) (HS.out.below (HBA.out.trans (hb.mono HBA.out.size))) (by have := HL.out; omega))
            have HRM := hide (fun W (hx : RRd W a0 cap0 gx l s) => rint_any W a0 cap0 gx l s bb cc hx (by have := HL.out; omega))
            generalize Vi.int l s bb cc = T at *
            obtain ⟨v, s'⟩ := T
            simp only at HNM HRM
            have huu : (v != v) = false := by simp
            go_upto_region 21 with fail
            go_region_held3 (fun w' => w'.cell? ⟨ga, 3, none⟩ = some (.int .i64 bb) ∧ w'.cell? ⟨ga, 4, none⟩ = some (.int .i64 cc)) (go_keep)
              (first
                | (go_at_call 40; (with_reducible refine (HNM.out _ (Below.refl _ _).drew).mono ?_); rintro e w7 ⟨rfl, hr7, hb7⟩; have hk7 : w7.cell? ⟨ga, 3, none⟩ = some (.int .i64 bb) ∧ w7.cell? ⟨ga, 4, none⟩ = some (.int .i64 cc) := ⟨(hb7.cell hgl hag).trans k3, (hb7.cell hgl hag).trans k4⟩)
                | (go_at_call 41; (with_reducible refine (HRM.out _ (HXB.out _ (HDR.out.trans hb7))).mono ?_); rintro e w8 ⟨rfl, hx8, hb8⟩; have hk8 : w8.cell? ⟨ga, 3, none⟩ = some (.int .i64 bb) ∧ w8.cell? ⟨ga, 4, none⟩ = some (.int .i64 cc) := ⟨(hb8.cell (Nat.lt_of_lt_of_le hgl hb7.size) hagx).trans hk7.1, (hb8.cell (Nat.lt_of_lt_of_le hgl hb7.size) hagx).trans hk7.2⟩)
                | fail)
            have HO := hide (HFIN.out _ _ _ hr7 (HDR.out.trans hb7) hx8 hb8)
            clear hr7 hb7 hk7 hx8 hb8 hk8
            go_wp2_with fail
            go_meet
            exact ⟨s', HO.out⟩
          · by_cases e3 : kd = 3
            · subst e3
              have HNM := hide (fun W (hb : Below wa.heap.size wa W) => rbytes_any W p g l s n HKK.out.n1 HKK.out.n2 (HRA.out.below hb) (HS.out.below (HBA.out.trans (hb.mono HBA.out.size))) (fun W' hW => HS.out.below (HBUT.out W' ((But.of_below (g := g) hb).trans hW))) (by have := HL.out; omega))
              have HRM := hide (fun W (hx : RRd W a0 cap0 gx l s) => rtext_any W a0 cap0 gx l s n HKK.out.n1 HKK.out.n2 hx (by have := HL.out; omega))
              have htl := text_len l s n.toNat
              generalize Vi.text l s n.toNat = T at *
              obtain ⟨t, s'⟩ := T
              simp only at HNM HRM htl
              have HTL := hide htl
              have HSB : Hid (∀ W A7 c7 A8 c8, Arg W A7 c7 t → Arg W A8 c8 t → Calls Tryd.prog 20 #[.slice A7 t.length c7, .slice A8 t.length c8] W fun e w' => e = .returned (.bool true) ∧ ∃ n, w' = W.drewN n) := hide (fun W A7 c7 A8 c8 h7 h8 => by
                have h := sameBytes_any A7 A8 c7 c8 t.length t.length t t W rfl rfl (by have := HL.out; have := HTL.out; omega) (by have := HL.out; have := HTL.out; omega) h7.reads h8.reads
                rwa [show decide (t = t) = true by simp] at h)
              clear htl
              have HAB : Hid (∀ W7 W8 A7 c7, Arg W7 A7 c7 t → (∀ b off, A7 = some ⟨b, off, none⟩ → wa.drew.heap.size ≤ b ∧ b ≠ g) → But gx W7 W8 → Arg W8 A7 c7 t) := hide (fun W7 W8 A7 c7 h1 h2 h3 => h1.but h3 (fun b off h => by
                have h4 : wa.heap.size ≤ b := (h2 b off h).1
                have := HGXL.out
                omega))
              go_upto_region 24 with fail
              go_region_held3 (fun w' => w'.cell? ⟨ga, 1, none⟩ = some (.int .i64 n)) (go_keep)
                (first
                  | (go_at_call 42; (with_reducible refine (HNM.out _ (Below.refl _ _).drew).mono ?_); rintro e w7 ⟨v7, rfl, ⟨A7, c7, rfl, ha7, hn7⟩, hr7, hb7⟩; have hk7 : w7.cell? ⟨ga, 1, none⟩ = some (.int .i64 n) := (hb7.cell hgl hag).trans k1)
                  | (go_at_call 43; (with_reducible refine (HRM.out _ (HXB.out _ (HDR.out.trans hb7))).mono ?_); rintro e w8 ⟨v8, rfl, ⟨A8, c8, rfl, ha8, hn8⟩, hx8, hb8⟩; have hk8 : w8.cell? ⟨ga, 1, none⟩ = some (.int .i64 n) := (hb8.cell (Nat.lt_of_lt_of_le hgl hb7.size) hagx).trans hk7; have ha78 : Arg w8 A7 c7 t := HAB.out _ _ _ _ ha7 hn7 hb8)
                  | (go_at_call 20; (with_reducible refine (HSB.out w8 A7 c7 A8 c8 ha78 ha8).mono ?_); rintro e w9 ⟨rfl, n9, rfl⟩)
                  | fail)
              have HO := hide (HFIN.out _ _ _ hr7 (HDR.out.trans hb7) hx8 hb8)
              clear hr7 hb7 hk7 hx8 hb8 hk8 ha7 ha8 hn7 hn8 ha78
              go_wp2_with fail
              go_meet
              exact ⟨s', HO.out.1.below (below_drewN (Below.refl _ _) n9), HO.out.2.1.below (below_drewN (Below.refl _ _) n9), below_drewN HO.out.2.2 n9⟩
            · have HNM := hide (fun W (hb : Below wa.heap.size wa W) => fixed_any W p g l s n HKK.out.n1 HKK.out.n2 (HRA.out.below hb) (HS.out.below (HBA.out.trans (hb.mono HBA.out.size))) (by have := HL.out; omega))
              have HRM := hide (fun W (hx : RRd W a0 cap0 gx l s) => rfixed_any W a0 cap0 gx l s n HKK.out.n1 HKK.out.n2 hx (by have := HL.out; omega))
              generalize Vi.fixed l s n = T at *
              obtain ⟨v, s'⟩ := T
              simp only at HNM HRM
              have huu : ((v : Int) != v) = false := by simp
              have q1 : (kd == 1) = false := by simp [e1]
              have q2 : (kd == 2) = false := by simp [e2]
              have q3 : (kd == 3) = false := by simp [e3]
              clear e1 e2 e3
              go_upto_region 15 with fail
              go_region_held3 (fun w' => w'.cell? ⟨ga, 1, none⟩ = some (.int .i64 n)) (go_keep)
                (first
                  | (go_at_call 44; (with_reducible refine (HNM.out _ (Below.refl _ _).drew).mono ?_); rintro e w7 ⟨rfl, hr7, hb7⟩; have hk7 : w7.cell? ⟨ga, 1, none⟩ = some (.int .i64 n) := (hb7.cell hgl hag).trans k1)
                  | (go_at_call 45; (with_reducible refine (HRM.out _ (HXB.out _ (HDR.out.trans hb7))).mono ?_); rintro e w8 ⟨rfl, hx8, hb8⟩; have hk8 : w8.cell? ⟨ga, 1, none⟩ = some (.int .i64 n) := (hb8.cell (Nat.lt_of_lt_of_le hgl hb7.size) hagx).trans hk7)
                  | fail)
              have HO := hide (HFIN.out _ _ _ hr7 (HDR.out.trans hb7) hx8 hb8)
              clear hr7 hb7 hk7 hx8 hb8 hk8
              go_wp2_with fail
              go_meet
              exact ⟨s', HO.out⟩
      case rest =>
        obtain ⟨s', hr, hx, hb⟩ := hcut
        have HRC := hide hr
        have HXC := hide hx
        have HBC := hide hb
        have hatl := hr.ok.le
        have HLE : Hid (((l.length - s'.at_ : Nat) : Int) = (l.length : Int) - s'.at_) := by show _ = _; omega
        have u1 : (((s'.at_ : Nat) : Int) != s'.at_) = false := by simp
        have u2 : (((l.length : Int) - (s'.at_ : Int)) != (l.length : Int) - s'.at_) = false := by simp
        have hwr : IntKind.i64.wrap ((l.length : Int) - (s'.at_ : Int)) = (l.length : Int) - s'.at_ := by rw [IntKind.wrap_i64]; omega
        have HAT := hide (fun W (h : Below wc.heap.size wc W) => rat_any W p g l s' (HRC.out.below h))
        have HLF := hide (fun W (h : Below wc.heap.size wc W) => by
          have h' := rleft_any W p g l s' (HRC.out.below h) (by have := HL.out; omega)
          rw [HLE.out] at h'; exact h')
        have HER := hide (fun W (h : Below wc.heap.size wc W) => rerr_any W p g l s' (HRC.out.below h))
        have HSM := hide (fun W (h : Below wc.heap.size wc W) E (he : ErrIs W p g E s') => same_err W p (HS.out.below (HBC.out.trans (h.mono HBC.out.size))) g E s' he)
        have x1 := hx.c1
        have x2 := hx.c2
        have x3 := hx.c3
        have x4 := hx.c4
        have hxl : gx < wc.heap.size := hx.lt
        unfold fltV at HSM
        clear hr hx hb hatl HBUT HXB HFIN HDR HRA HXA HBA k1 k2 k3 k4 hgl hag hagx HGL HGXL
        go_upto_region 26 with fail
        go_region_held3 (fun w' => w'.cell? ⟨gx, 1, none⟩ = some (.int .i64 (s'.at_ : Int)) ∧ w'.cell? ⟨gx, 2, none⟩ = some (.int .i64 (s'.code : Int)) ∧ w'.cell? ⟨gx, 3, none⟩ = some (.bool s'.pos.isSome) ∧ w'.cell? ⟨gx, 4, none⟩ = some (.int .i64 ((s'.pos.getD 0 : Nat) : Int))) (go_keep)
          (first
            | (go_at_call 46; (with_reducible refine (HAT.out _ (Below.refl _ _).drew).mono ?_); rintro e w7 ⟨rfl, rfl⟩)
            | (go_at_call 47; (with_reducible refine (HLF.out _ (Below.refl _ _).drew).mono ?_); rintro e w8 ⟨rfl, n8, rfl⟩)
            | (go_at_call 49; (with_reducible refine (HER.out _ (below_drewN (Below.refl _ _) _)).mono ?_); rintro e w9 ⟨⟨E, rfl, hE⟩, rfl⟩)
            | (go_at_call 48; (with_reducible refine (HSM.out _ (below_drewN (Below.refl _ _) _) E hE).mono ?_); rintro e w10 ⟨rfl, hb10⟩; have hb11 : Below wc.heap.size wc w10 := (below_drewN (Below.refl wc.heap.size wc) _).trans hb10; have y1 := (hb11.cell (p := ⟨gx, 1, none⟩) hxl).trans x1; have y2 := (hb11.cell (p := ⟨gx, 2, none⟩) hxl).trans x2; have y3 := (hb11.cell (p := ⟨gx, 3, none⟩) hxl).trans x3; have y4 := (hb11.cell (p := ⟨gx, 4, none⟩) hxl).trans x4)
            | fail)
        have HB11 := hide hb11
        clear hE hb10 hb11 y1 y2 y3 y4 x1 x2 x3 x4 u1 u2 hwr HAT HLF HER HSM
        go_wp2_with fail
        exact ⟨⟨k + 1, by omega, by go_num, ⟨s', HRC.out.below HB11.out, HXC.out.below HB11.out⟩, HBC.out.trans (HB11.out.mono HBC.out.size)⟩, by simp [intOf]; omega⟩
    · obtain rfl : k = xs.length := by omega
      go_wp2_with fail
      go_ret
      exact ⟨rfl, HBK.out⟩

set_option maxRecDepth 100000 in
theorem vreads_far (a0 a1 : Option Addr) (cap0 cap1 n0 n1 : Nat) (w : World) (m0 : n0 ≤ 9223372036854775807) (m1 : n1 ≤ 9223372036854775807) (hf : 60 < n0 ∨ 20 < n1) :
    Calls Tryd.prog 10 #[.slice a0 n0 cap0, .slice a1 n1 cap1] w fun e w' => e = .returned (.bool true) ∧ Below w.heap.size w w' := by
  by_cases h1 : 60 < n0
  · clear hf
    go_enter Tryd.func10, Tryd.ntmps10
    go_wp2_with (go_at_call 27; refine (vfirst_any _).mono ?_; rintro e w1 ⟨rfl, hb1⟩)
    go_ret
    exact ⟨rfl, hb1⟩
  · have h2 : 20 < n1 := by omega
    clear hf
    go_enter Tryd.func10, Tryd.ntmps10
    go_wp2_with (go_at_call 27; refine (vfirst_any _).mono ?_; rintro e w1 ⟨rfl, hb1⟩)
    go_ret
    exact ⟨rfl, hb1⟩

theorem vreads_walk (a0 a1 : Option Addr) (cap0 cap1 : Nat) (l : List UInt8) (xs : List AskV) (w : World) (p : Nat → Addr) (hs : Sents w p) (h0 : Arg w a0 cap0 l) (h1 : Asks w a1 xs) (hc1 : xs.length ≤ cap1) (hm1 : cap1 ≤ 9223372036854775807) (hok : ∀ k, k < xs.length → AskOk (xs.getD k default)) :
    Calls Tryd.prog 10 #[.slice a0 l.length cap0, .slice a1 xs.length cap1] w fun e w' => e = .returned (.bool true) ∧ Below w.heap.size w w' := by
  by_cases hf : 60 < l.length ∨ 20 < xs.length
  · exact vreads_far a0 a1 cap0 cap1 _ _ w (Nat.le_trans h0.le h0.max) (Nat.le_trans hc1 hm1) hf
  · exact vreads_near a0 a1 cap0 cap1 l.length l xs w p hs h0 h1 rfl hc1 hm1 hok (by omega) (by omega)
end Go.Proofs.YtdiplknlkmealaaDoor
