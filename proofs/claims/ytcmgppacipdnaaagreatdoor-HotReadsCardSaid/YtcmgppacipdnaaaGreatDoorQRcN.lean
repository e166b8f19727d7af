/-
  The walk through rec's unlay.
-/
import Derived.Test.YtcmgppacipdnaaaGreatDoorQRcU
import Derived.Test.YtcmgppacipdnaaaGreatDoorQRcB
import Derived.Deep.RegionHeld3
import Derived.Deep.DeepCutAuto
namespace Go.Proofs.YtcmgppacipdnaaaGreatDoor
open Go.RowKit

/-- What unlay gives. -/
def Unlaid (l : List UInt8) (w : World) (e : Ending) (w' : World) : Prop :=
  (∃ val, e = .returned (.tuple #[val, .bool (Rc.okay l)]) ∧ (Rc.okay l = true → ∃ A c, val = batV (Rc.parse l).base (Rc.parse l).epoch A (Rc.parse l).recs.length c ∧ NewBat w.heap.size w' A c (Rc.parse l)) ∧ (Rc.okay l = false → val = batV 0 0 none 0 0)) ∧ Below w.heap.size w w'

theorem Unlaid.no {l : List UInt8} {w w' : World} (h : Rc.okay l = false) (hb : Below w.heap.size w w') : Unlaid l w (.returned (.tuple #[batV 0 0 none 0 0, .bool false])) w' :=
  ⟨⟨batV 0 0 none 0 0, by rw [h], fun h' => absurd (h.symm.trans h') (by decide), fun _ => rfl⟩, hb⟩
theorem Unlaid.yes {l : List UInt8} {w w' : World} (h : Rc.okay l = true) {b : Rc.Bat} (hp : Rc.parse l = b) {A : Option Addr} {c n : Nat} (hn : b.recs.length = n) (hi : NewBat w.heap.size w' A c b) (hb : Below w.heap.size w w') : Unlaid l w (.returned (.tuple #[batV b.base b.epoch A n c, .bool true])) w' := by
  subst hp hn
  exact ⟨⟨batV (Rc.parse l).base (Rc.parse l).epoch A (Rc.parse l).recs.length c, by rw [h], fun _ => ⟨A, c, rfl, hi⟩, fun h' => absurd (h.symm.trans h') (by decide)⟩, hb⟩

theorem UnSt.start {w0 w1 : World} {p : Nat → Addr} {g : Nat} {l : List UInt8} (t : TypeId) (hw : w1 = (w0.alloc (.cells #[.int .i64 0, .int .i64 0, .slice none 0 0] t)).alloc (.cells #[.int .i64 0, .int .i64 0, .slice none 0 0] t)) {w : World} (hb : Below w1.heap.size w1 w) (hg : w1.heap.size ≤ g) (hr : Rdr w p g l start) :
    UnSt w0 w p w0.heap.size (w0.heap.size + 1) g w.heap.size l start 0 0 (.slice none 0 0) [] := by
  obtain ⟨A, cap, E, h0, h1, h2, ha, hne, he⟩ := hr.ex
  have z : w1.heap.size = w0.heap.size + 2 := by rw [hw]; simp
  have a0 : ∀ k, w1.cell? ⟨w0.heap.size, k, none⟩ = (#[.int .i64 0, .int .i64 0, .slice none 0 0] : Array Value)[k]? := fun k => by
    rw [hw, World.cell?_alloc_lt _ _ _ (by simp), World.cell?_alloc_mark]
  have a1 : ∀ k, w1.cell? ⟨w0.heap.size + 1, k, none⟩ = (#[.int .i64 0, .int .i64 0, .slice none 0 0] : Array Value)[k]? := fun k => by
    rw [hw, show w0.heap.size + 1 = (w0.alloc (.cells #[.int .i64 0, .int .i64 0, .slice none 0 0] t)).heap.size from by simp, World.cell?_alloc_mark]
  have f0 : ∀ k, w1.frozen? ⟨w0.heap.size, k, none⟩ = false := fun k => by rw [hw]; simp [go_sem]
  have f1 : ∀ k, w1.frozen? ⟨w0.heap.size + 1, k, none⟩ = false := fun k => by rw [hw]; simp [go_sem]
  have hbuf : l ≠ [] → ∀ b off, A = some ⟨b, off, none⟩ → b < w.heap.size := fun hl b off e => by
    rcases ha.reads with h0 | ⟨b', off', e', hlt, _⟩
    · exact absurd h0 hl
    · rw [e] at e'
      injection e' with e'
      injection e' with e1
      omega
  have b2 : w0.heap.size < w1.heap.size := by omega
  have b4 : w0.heap.size + 1 < w1.heap.size := by omega
  have c2 : ∀ k, w.cell? ⟨w0.heap.size, k, none⟩ = (#[.int .i64 0, .int .i64 0, .slice none 0 0] : Array Value)[k]? := fun k => (hb.cell (p := ⟨w0.heap.size, k, none⟩) b2).trans (a0 k)
  have c4 : ∀ k, w.cell? ⟨w0.heap.size + 1, k, none⟩ = (#[.int .i64 0, .int .i64 0, .slice none 0 0] : Array Value)[k]? := fun k => (hb.cell (p := ⟨w0.heap.size + 1, k, none⟩) b4).trans (a1 k)
  refine ⟨hr, ⟨A, _, _, h0, hbuf⟩, c2 0, c2 1, c2 2, c4 0, c4 1, c4 2, fun k hk => ?_, fun k => (hb.frozen (p := ⟨w0.heap.size, k, none⟩) b2).trans (f0 k), fun k => (hb.frozen (p := ⟨w0.heap.size + 1, k, none⟩) b4).trans (f1 k), Nat.le_refl _, by omega, by omega, hr.lt, Nat.le_refl _, Row.nil _ _, fun _ => rfl, ?_⟩
  · rw [c4 k]
    simp
    omega
  · have hb1 : Below w0.heap.size w0 w1 := hw ▸ balloc (balloc (Below.refl _ _) _) _
    exact hb1.trans (hb.mono (by omega))

theorem row_succ {w : World} {base : Nat} {e : TypeId} {size n : Nat} {v : Value} {xs : List Value} (h : w.ownsRow base e size v (n + 1) xs) : ∃ g cap, v = .slice (some ⟨g, 0, none⟩) (n + 1) cap := by
  rcases h.2 with ⟨_, h0⟩ | ⟨g, cap, _, e, _⟩
  · omega
  · exact ⟨g, cap, e⟩

set_option maxRecDepth 100000 in
set_option maxHeartbeats 2000000 in
theorem unlay_any (A : Option Addr) (cap n : Nat) (l : List UInt8) (w : World) (p : Nat → Addr) (hn : l.length = n) (hl : n ≤ 70000) (ha : Arg w A cap l) (hs : Sents5 w p) :
    Calls Tryz.prog 190 #[.slice A n cap] w (Unlaid l w) := by
  subst hn
  obtain ⟨w1, hw1⟩ : ∃ w1, w1 = (w.alloc (.cells #[.int .i64 0, .int .i64 0, .slice none 0 0] 36)).alloc (.cells #[.int .i64 0, .int .i64 0, .slice none 0 0] 36) := ⟨_, rfl⟩
  have hb1 : Below w.heap.size w w1 := hw1 ▸ balloc (balloc (Below.refl _ _) _) _
  have HNW := hide (newReader_any A cap l.length l w1 p rfl (by omega) (ha.below hb1 (Nat.le_refl _)))
  have HS := hide hs
  clear ha hs
  go_enter Tryz.func190, Tryz.ntmps190
  go_upto_region 2 with fail
  rw [← hw1]
  have HW1 := hide hw1
  clear hw1
  go_upto_region 3 with fail
  refine HNW.out.mono ?_
  rintro e w2 ⟨g, rfl, hg, hr2, hb2⟩
  have hst := UnSt.start 36 HW1.out hb2 hg hr2
  have HST := hide hst
  clear hg hr2 hb2 hb1 HNW HW1 hst
  have hsn := HST.out.sents HS.out
  have h8 : (Rc.head1 l).1 < 18446744073709551616 := Rc.fixed_lt l start 8
  have hF1 : Calls Tryz.prog _ _ _ _ := fixed_any w2 p g l start 8 (by omega) (by omega) HST.out.rdr hsn.1 (by omega)
  change Calls Tryz.prog _ _ _ (fun e w' => e = .returned (.int .u64 (Rc.head1 l).1) ∧ Rdr w' p g l (Rc.head1 l).2 ∧ But g w2 w') at hF1
  have HF1 := hide hF1
  have hwr := Rc.toI_wrap _ h8
  have HU1 := hide h8
  clear hF1 hsn h8
  generalize hh1 : Rc.head1 l = h1 at *
  obtain ⟨u1, s1⟩ := h1
  simp only at HF1 hwr HU1
  go_upto_region 4 with fail
  refine HF1.out.mono ?_
  rintro e w3 ⟨rfl, hr3, hb3⟩
  have hst3 := HST.out.reader hr3 hb3
  have q0 := hst3.c0
  have q1 := hst3.f4 0
  have HST3 := hide (hst3.num0 (Rc.toI u1))
  clear hr3 hb3 hst3 HST HF1
  go_upto_region 4 with fail
  generalize w3.setCell ⟨w.heap.size + 1, 0, none⟩ (.int .i64 (Rc.toI u1)) = w4 at *
  have hsn := HST3.out.sents HS.out
  have h4 : (Rc.head2 l).1 < 4294967296 := Rc.fixed_lt l (Rc.head1 l).2 4
  have hF2 : Calls Tryz.prog _ _ _ _ := fixed_any w4 p g l s1 4 (by omega) (by omega) HST3.out.rdr hsn.1 (by omega)
  rw [show Vi.fixed l s1 4 = Rc.head2 l from by unfold Rc.head2; rw [hh1]] at hF2
  have HF2 := hide hF2
  clear hF2 hsn
  generalize hh2 : Rc.head2 l = h2 at *
  obtain ⟨u2, s2⟩ := h2
  simp only at HF2 h4
  go_upto_region 5 with fail
  refine HF2.out.mono ?_
  rintro e w5 ⟨rfl, hr5, hb5⟩
  have hst5 := HST3.out.reader hr5 hb5
  have q2 := hst5.c1
  have q3 := hst5.f4 1
  have HST5 := hide (hst5.num1 (u2 : Int))
  clear hr5 hb5 hst5 HST3 HF2
  go_upto_region 5 with fail
  generalize w5.setCell ⟨w.heap.size + 1, 1, none⟩ (.int .i64 (u2 : Int)) = w6 at *
  have hsn := HST5.out.sents HS.out
  have h2b : (Rc.head3 l).1 < 65536 := Rc.fixed_lt l (Rc.head2 l).2 2
  have hF3 : Calls Tryz.prog _ _ _ _ := fixed_any w6 p g l s2 2 (by omega) (by omega) HST5.out.rdr hsn.1 (by omega)
  rw [show Vi.fixed l s2 2 = Rc.head3 l from by unfold Rc.head3; rw [hh2]] at hF3
  have HF3 := hide hF3
  clear hF3 hsn q0 q1 q2 q3
  generalize hh3 : Rc.head3 l = h3 at *
  obtain ⟨u3, s3⟩ := h3
  simp only at HF3 h2b
  go_upto_region 6 with fail
  refine HF3.out.mono ?_
  rintro e w7 ⟨rfl, hr7, hb7⟩
  have HST7 := hide (HST5.out.reader hr7 hb7)
  clear hr7 hb7 HST5 HF3
  have hsn := HST7.out.sents HS.out
  have hF4 : Calls Tryz.prog _ _ _ _ := int_any w7 p g l s3 (-1099511627776) 1099511627776 HST7.out.rdr hsn.1 (by omega)
  rw [show Vi.int l s3 (-1099511627776) 1099511627776 = Rc.head4 l from by unfold Rc.head4; rw [hh3]] at hF4
  have hi4 : -1099511627776 ≤ (Rc.head4 l).1 ∧ (Rc.head4 l).1 ≤ 1099511627776 := Rc.int_bd l (Rc.head3 l).2 1099511627776 (by omega)
  have HF4 := hide hF4
  clear hF4 hsn
  generalize hh4 : Rc.head4 l = h4' at *
  obtain ⟨t4, s4⟩ := h4'
  simp only at HF4 hi4
  go_upto_region 6 with fail
  go_upto_region 7 with fail
  refine HF4.out.mono ?_
  rintro e w8 ⟨rfl, hr8, hb8⟩
  have HST8 := hide (HST7.out.reader hr8 hb8)
  clear hr8 hb8 HST7 HF4
  have HT : Hid (Rc.tail l = Rc.loop l u3 u3 s4 t4 0 []) := by
    show _ = _
    unfold Rc.tail
    rw [hh3, hh4]
  have HPA : Hid ((Rc.parse l).base = Rc.toI u1 ∧ (Rc.parse l).epoch = u2 ∧ (Rc.parse l).recs = (Rc.tail l).1) := by
    show _ ∧ _
    unfold Rc.parse
    rw [hh1, hh2]
    exact ⟨rfl, rfl, rfl⟩
  have HLL := hide hl
  clear hh1 hh2 hh3 hh4 hwr
  go_upto_block 0 with fail
  go_cut [7, 8] (fun _ _ wx => ∃ v qs s, UnSt w wx p w.heap.size (w.heap.size + 1) g w2.heap.size l s (Rc.toI u1) u2 v qs ∧ (qs.map (·.r), s) = Rc.tail l)
  case first =>
    go_wp2_with fail
    go_loopg [7, 8] u3 (fun gh tv sv wr => ∃ (s : Vi.Rs) (ti st : Int) (v : Value) (qs : List PRec), tv = .int .i64 ti ∧ sv = .int .i64 st ∧ (st = 0 ∨ st = 2199023255552) ∧ UnSt w wr p w.heap.size (w.heap.size + 1) g w2.heap.size l s (Rc.toI u1) u2 v qs ∧ gh = u3 - qs.length ∧ qs.length ≤ u3 ∧
      Rc.loop l u3 (u3 - qs.length) s ti st (qs.map (·.r)) = Rc.tail l ∧ -1099511627776 - 2199023255552 * (qs.length : Int) ≤ ti ∧ ti ≤ 1099511627776 + 2199023255552 * (qs.length : Int))
    case atStart => exact ⟨s4, t4, 0, _, [], rfl, rfl, .inl rfl, HST8.out, rfl, Nat.zero_le _, HT.out.symm, by simp; omega, by simp; omega⟩
    case round =>
      obtain ⟨s, ti, st, v, qs, rfl, rfl, hst01, hst, rfl, hqn, hloop, hti1, hti2⟩ := hrel
      have HSTK := hide hst
      have HLP := hide hloop
      have c2 := hst.c2
      have f2 := hst.f4 2
      obtain ⟨Av, cv, rfl⟩ := hst.isSlice
      have HER := hide (rerr_any wr p g l s hst.rdr)
      have hsn := hst.sents HS.out
      have HSN := hide hsn
      by_cases hlt : qs.length < u3
      · by_cases hc : s.code = 0
        · have hlo := Rc.loop_on l u3 s ti st (qs.map (·.r)) (by simpa using hlt) hc
          have HLO := hide hlo
          clear hst hloop hlo hsn
          go_upto_region 9 with fail
          refine HER.out.mono ?_
          rintro e w9 ⟨⟨E, rfl, hE⟩, rfl⟩
          obtain rfl := hE.good hc
          clear hE HER
          go_upto_region 9 with fail
          have hx1 : (Rc.step1 l s ti st) = (⟨ti + (Vi.int l s (-st) st).1, (Vi.text l (Vi.int l s (-st) st).2 64).1, (Vi.text l (Vi.text l (Vi.int l s (-st) st).2 64).2 512).1⟩, (Vi.text l (Vi.text l (Vi.int l s (-st) st).2 64).2 512).2) := rfl
          have hbd := Rc.int_bd l s st (by omega)
          have HI := hide (int_any wr p g l s (-st) st HSTK.out.rdr HSN.out.1 (by have := HLL.out; omega))
          have HX1 := hide hx1
          clear hx1
          generalize Vi.int l s (-st) st = I at *
          obtain ⟨d, si⟩ := I
          simp only at HI hbd HX1
          go_upto_region 10 with fail
          refine HI.out.mono ?_
          rintro e wa ⟨rfl, hra, hba⟩
          have HSA := hide (HSTK.out.reader hra hba)
          clear hra hba HI HSTK
          have hsn := HSA.out.sents HS.out
          have HTK := hide (rbytes_any wa p g l si 64 (by omega) (by omega) HSA.out.rdr hsn.1 (fun W hb => (hsn.2 W hb).mono fun j hj => by omega) (by have := HLL.out; omega))
          clear hsn
          rw [show ((64 : Int)).toNat = 64 from rfl] at HTK
          generalize Vi.text l si 64 = TK at *
          obtain ⟨ky, sk⟩ := TK
          simp only at HTK HX1
          go_upto_region 10 with fail
          go_upto_region 11 with fail
          refine HTK.out.mono ?_
          rintro e wb ⟨vk, rfl, ⟨Ak, ck, rfl, hak, hfk⟩, hrb, hbb⟩
          have hown := HSA.out.row.own.lt
          have hosa := HSA.out.os
          have HSB := hide (HSA.out.reader hrb hbb)
          have hwab := hbb.size
          have htk : Txt wb w2.heap.size (.slice Av qs.length cv) Ak ck ky := ⟨hak, fun _ b off e => ⟨by have := (hfk b off e).1; omega, fun e' => by have := (hown b e').2; have := (hfk b off e).1; omega⟩⟩
          have HTXK := hide htk
          clear hrb hbb HTK HSA hak hfk htk hown
          have hsn := HSB.out.sents HS.out
          have HTV := hide (rbytes_any wb p g l sk 512 (by omega) (by omega) HSB.out.rdr hsn.1 (fun W hb => (hsn.2 W hb).mono fun j hj => by omega) (by have := HLL.out; omega))
          clear hsn
          rw [show ((512 : Int)).toNat = 512 from rfl] at HTV
          generalize Vi.text l sk 512 = TV at *
          obtain ⟨vl, sv⟩ := TV
          simp only at HTV HX1
          go_upto_region 12 with fail
          refine HTV.out.mono ?_
          rintro e wc ⟨vv, rfl, ⟨Ax, cx, rfl, hax, hfx⟩, hrc, hbc⟩
          have hown := HSB.out.row.own.lt
          have hosb := HSB.out.os
          have HSC := hide (HSB.out.reader hrc hbc)
          have hwbc := hbc.size
          have htv : Txt wc w2.heap.size (.slice Av qs.length cv) Ax cx vl := ⟨hax, fun _ b off e => ⟨by have := (hfx b off e).1; omega, fun e' => by have := (hown b e').2; have := (hfx b off e).1; omega⟩⟩
          have HTXV := hide htv
          have HTXK2 := hide (HTXK.out.keep hbc.grown HSB.out.ol)
          clear hrc hbc HTV HSB hax hfx htv hown HTXK
          go_upto_region 12 with fail
          obtain ⟨i0, hi, hz, hs1, hby⟩ := info_parts record_info
          have hbal : Below wc.heap.size wc (wc.alloc (.cells #[.int .i64 (ti + d), .slice Ak ky.length ck, .slice Ax vl.length cx] 80)) := balloc (Below.refl _ _) _
          have HBAL := hide hbal
          have hosc := HSC.out.os
          have y0 := HSC.out.c2
          have y1 := HSC.out.f4 2
          clear hbal c2 f2
          go_wp2_with (at_builtin; refine wpList_append_own_at (w := wc.alloc _) rfl (.tmp 48) (.tmp 53) 34 rfl w2.heap.size 80 i0 _ 3 56 Tryz.underlying34 hi hz hs1 hby rfl (by omega) (.slice Av qs.length cv) qs.length (qs.flatMap PRec.cells) rfl (HSC.out.row.own.alloc _) ⟨wc.heap.size, 0, none⟩ 1 1 (PRec.cells ⟨⟨ti + d, ky, vl⟩, Ak, ck, Ax, cx⟩) rfl rfl (cells_three _ _ _ _ _) (PRec.cells_one _) (by simp only [maxLen]; omega) (by omega) (by simp; omega) ?_; intro v5 wd hown5 hg5 hnil5 hat5; obtain ⟨g5, c5, rfl⟩ := row_succ hown5; have ymid := HSC.out.mid HBAL.out hg5; have y2 := ymid.1; have y3 := ymid.2; have HPUSH := hide (HSC.out.push (q := ⟨⟨ti + d, ky, vl⟩, Ak, ck, Ax, cx⟩) HTXK2.out HTXV.out HBAL.out hg5 hat5 hown5); clear hown5 hg5 hnil5 hat5 ymid)
          go_roundg (u3 - (qs.length + 1))
          case measure => omega
          case rel =>
            refine ⟨sv, ti + d, 2199023255552, _, _, rfl, rfl, .inr rfl, HPUSH.out, by simp, by simp; omega, ?_, by simp; omega, by simp; omega⟩
            have h := HLO.out
            rw [HX1.out] at h
            have h2 := HLP.out
            simp only [List.length_map, List.length_append, List.length_cons, List.length_nil] at h h2
            rw [List.map_append, List.length_append, ← h2, h]
            rfl
        · obtain ⟨A1, c1', E', z0, z1, z2, za, zn, zE⟩ := hst.rdr.ex
          obtain ⟨ue, xe, rfl⟩ := zE.bad hc
          have HLE := hide (Rc.loop_end l u3 s ti st (qs.map (·.r)) (fun h => hc h.2))
          clear hst hloop hsn z0 z1 z2 za zn zE HSN
          go_upto_region 9 with fail
          refine HER.out.mono ?_
          rintro e w9 ⟨⟨E, rfl, hE⟩, rfl⟩
          obtain ⟨ue, xe, rfl⟩ := hE.bad hc
          have k1 := eqn_nil ue xe
          clear hE HER
          go_wp2_with fail
          go_meet
          refine ⟨_, qs, s, HSTK.out, ?_⟩
          have h := HLE.out
          have h2 := HLP.out
          simp only [List.length_map] at h
          rw [← h2, h]
      · have HLE := hide (Rc.loop_end l u3 s ti st (qs.map (·.r)) (fun h => hlt (by simpa using h.1)))
        clear hst hloop hsn HSN HER
        go_wp2_with fail
        go_meet
        refine ⟨_, qs, s, HSTK.out, ?_⟩
        have h := HLE.out
        have h2 := HLP.out
        simp only [List.length_map] at h
        rw [← h2, h]
  case rest =>
    obtain ⟨v, qs, s, hst, htl⟩ := hcut
    have HSTK := hide hst
    have HER := hide (rerr_any wc p g l s hst.rdr)
    have HLF := hide (rleft_any wc p g l s hst.rdr (by omega))
    have c0 := hst.c0
    have c1 := hst.c1
    have c2 := hst.c2
    have e0 := hst.e0
    have e1 := hst.e1
    have e2 := hst.e2
    have f20 := hst.f2 0
    have f21 := hst.f2 1
    have f22 := hst.f2 2
    obtain ⟨Av, cv, rfl, hqc, hqm, hrecs⟩ := hst.row.val
    have hfin := hst.fin (.int .i64 0) (.int .i64 0) (.slice none 0 0)
    have HFB := hide hfin.1
    have HOK : Hid (Rc.okay l = decide (s.code = 0 ∧ l.length ≤ s.at_ ∧ Rc.bad (Rc.parse l) = 0)) := by
      show _ = _
      unfold Rc.okay
      rw [← htl]
    have HPR : Hid (Rc.parse l = ⟨Rc.toI u1, u2, qs.map (·.r)⟩) := by
      show _ = _
      have h := HPA.out
      rw [← htl] at h
      obtain ⟨h1, h2, h3⟩ := h
      cases hp : Rc.parse l with
      | mk b e r => rw [hp] at h1 h2 h3; simp only at h1 h2 h3; rw [h1, h2, h3]
    clear hst htl hfin
    by_cases hc : s.code = 0
    · go_wp2_with fail
      refine HER.out.mono ?_
      rintro e w9 ⟨⟨E, rfl, hE⟩, rfl⟩
      obtain rfl := hE.good hc
      clear hE HER
      by_cases hle : s.at_ < l.length
      · have HNO : Hid (Rc.okay l = false) := by show _ = _; rw [HOK.out]; simp; omega
        have hlf : (0 : Int) < ((l.length - s.at_ : Nat) : Int) := by omega
        obtain ⟨s0, s1', s2'⟩ := HSTK.out.fincells (.int .i64 0) (.int .i64 0) (.slice none 0 0)
        go_wp2_with fail
        refine HLF.out.mono ?_
        rintro e w10 ⟨rfl, q, rfl⟩
        have hq := HSTK.out.quiet (below_drewN (Below.refl _ _) q)
        have HQ := hide hq
        have e0q := hq.e0
        have e1q := hq.e1
        have e2q := hq.e2
        have f20q := hq.f2 0
        have f21q := hq.f2 1
        have f22q := hq.f2 2
        clear hq HLF s0 s1' s2'
        generalize wc.drewN q = wq at *
        go_wp2_with fail
        obtain ⟨s0, s1', s2'⟩ := HQ.out.fincells (.int .i64 0) (.int .i64 0) (.slice none 0 0)
        have hfin := HQ.out.fin (.int .i64 0) (.int .i64 0) (.slice none 0 0)
        refine bodyPost_ret (v := .tuple #[batV 0 0 none 0 0, .bool false]) (by simp [results, Tryz.results190, go_sem, s0, s1', s2']) rfl (Unlaid.no HNO.out hfin.1)
      · have hlf : ((l.length - s.at_ : Nat) : Int) = 0 := by omega
        rw [hlf] at HLF
        go_wp2_with fail
        refine HLF.out.mono ?_
        rintro e w10 ⟨rfl, q, rfl⟩
        have hq := HSTK.out.quiet (below_drewN (Below.refl _ _) q)
        have HQ := hide hq
        have c0q := hq.c0
        have c1q := hq.c1
        have c2q := hq.c2
        have hrq := hq.row.val
        obtain ⟨Ar, cr, hsl, hrc1, hrc2, hrecsq⟩ := hrq
        injection hsl with hs1 hs2 hs3
        subst hs1 hs3
        have hib : IsBat (wc.drewN q) Av cv ⟨Rc.toI u1, u2, qs.map (·.r)⟩ := ⟨by simpa using hqc, hqm, hrecsq, Rc.toI_bd u1 (by have := HU1.out; omega), by simp; omega⟩
        have HV := hide (valid_any ⟨Rc.toI u1, u2, qs.map (·.r)⟩ Av cv qs.length (wc.drewN q) p hib (hq.sents HS.out).1.two (by simp))
        simp only at HV
        clear hq HLF hrecsq hib
        generalize wc.drewN q = wq at *
        by_cases hbad : Rc.bad ⟨Rc.toI u1, u2, qs.map (·.r)⟩ = 0
        · rw [hbad, show errOf p 0 = .nilIface from rfl] at HV
          have HYES : Hid (Rc.okay l = true) := by
            show _ = _
            rw [HOK.out, HPR.out]
            exact decide_eq_true ⟨hc, by omega, hbad⟩
          go_wp2_with fail
          refine HV.out.mono ?_
          rintro e w11 ⟨rfl, hb11⟩
          have hx := HQ.out.quiet hb11
          have HX := hide hx
          have x0 := hx.c0
          have x1 := hx.c1
          have x2 := hx.c2
          have e0q := hx.e0
          have e1q := hx.e1
          have e2q := hx.e2
          have f20q := hx.f2 0
          have f21q := hx.f2 1
          have f22q := hx.f2 2
          clear hx hb11 HV HQ c0q c1q c2q
          go_wp2_with fail
          obtain ⟨s0, s1', s2'⟩ := HX.out.fincells (.int .i64 (Rc.toI u1)) (.int .i64 u2) (.slice Av qs.length cv)
          have hfin := HX.out.fin (.int .i64 (Rc.toI u1)) (.int .i64 u2) (.slice Av qs.length cv)
          refine bodyPost_ret (v := .tuple #[batV (Rc.toI u1) u2 Av qs.length cv, .bool true]) (by simp [results, Tryz.results190, go_sem, s0, s1', s2']) rfl (Unlaid.yes HYES.out HPR.out (by simp) ((hfin.2.newBat (Rc.toI u1) u2 (Rc.toI_bd u1 (by have := HU1.out; omega)) (by simp; omega)).mono (by have := HX.out.o2; have := HX.out.o4; have := HX.out.og; have := HX.out.ol; omega)) hfin.1)
        · have hE : errOf p (Rc.bad ⟨Rc.toI u1, u2, qs.map (·.r)⟩) = .iface 297 (.pointer (some (p (Rc.bad ⟨Rc.toI u1, u2, qs.map (·.r)⟩ - 101)))) := by unfold errOf; rw [if_neg hbad]; rfl
          rw [hE] at HV
          have HNO : Hid (Rc.okay l = false) := by
            show _ = _
            rw [HOK.out, HPR.out]
            exact decide_eq_false (fun h => hbad h.2.2)
          generalize (.pointer (some (p (Rc.bad ⟨Rc.toI u1, u2, qs.map (·.r)⟩ - 101))) : Value) = xe at *
          have k1 := neq_nil 297 xe
          clear hE hbad
          go_wp2_with fail
          refine HV.out.mono ?_
          rintro e w11 ⟨rfl, hb11⟩
          have hx := HQ.out.quiet hb11
          have HX := hide hx
          have e0q := hx.e0
          have e1q := hx.e1
          have e2q := hx.e2
          have f20q := hx.f2 0
          have f21q := hx.f2 1
          have f22q := hx.f2 2
          clear hx hb11 HV HQ c0q c1q c2q
          go_wp2_with fail
          obtain ⟨s0, s1', s2'⟩ := HX.out.fincells (.int .i64 0) (.int .i64 0) (.slice none 0 0)
          have hfin := HX.out.fin (.int .i64 0) (.int .i64 0) (.slice none 0 0)
          refine bodyPost_ret (v := .tuple #[batV 0 0 none 0 0, .bool false]) (by simp [results, Tryz.results190, go_sem, s0, s1', s2']) rfl (Unlaid.no HNO.out hfin.1)
    · have HNO : Hid (Rc.okay l = false) := by show _ = _; rw [HOK.out]; simp [hc]
      go_wp2_with fail
      refine HER.out.mono ?_
      rintro e w9 ⟨⟨E, rfl, hE⟩, rfl⟩
      obtain ⟨ue, xe, rfl⟩ := hE.bad hc
      have k1 := neq_nil ue xe
      clear hE HER
      go_wp2_with fail
      obtain ⟨s0, s1, s2⟩ := HSTK.out.fincells (.int .i64 0) (.int .i64 0) (.slice none 0 0)
      refine bodyPost_ret (v := .tuple #[batV 0 0 none 0 0, .bool false]) (by simp [results, Tryz.results190, go_sem, s0, s1, s2]) rfl (Unlaid.no HNO.out HFB.out)
end Go.Proofs.YtcmgppacipdnaaaGreatDoor
