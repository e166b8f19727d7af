/-
  The reference's ReadIndex, walked.
-/
import Derived.Test.YtoaioijgmbhhnaaDoorIxQa
namespace Go.Proofs.YtoaioijgmbhhnaaDoor
open Go.RowKit

theorem qOpen_at (A : Option Addr) (cap : Nat) (l : List UInt8) (w : World) (good : Bool) (hg : good = true ↔ Crc.opens l) (h4 : 4 ≤ l.length) (hl : l.length ≤ 1000000) (ha : Arg w A cap l) :
    Calls Tryd.prog 54 #[.slice A l.length cap] w (RefOpenPost good A cap (l.length - 4) w) := by
  obtain ⟨n, hn⟩ : ∃ n, l.length = n + 4 := ⟨l.length - 4, by omega⟩
  have hd : (l.drop n).length = 4 := by simp; omega
  have four : ∀ d : List UInt8, d.length = 4 → ∃ x0 x1 x2 x3, d = [x0, x1, x2, x3] := by
    intro d h
    match d, h with
    | [a, b, c, d], _ => exact ⟨a, b, c, d, rfl⟩
  obtain ⟨x0, x1, x2, x3, hx⟩ := four _ hd
  have hw : w4 x0 x1 x2 x3 = Crc.word (l.drop n) := by
    rw [← w4_word, hx]; rfl
  have hr := ha.reads
  rcases hr with h0 | ⟨b, off, e, hb, hc⟩
  · rw [h0] at hn; simp at hn
  · have hr : Reads w (some ⟨b, off, none⟩) l := .inr ⟨b, off, rfl, hb, hc⟩
    have hle := ha.le
    subst e
    rw [hn] at hl hle ⊢
    have key := refOpen_long b off cap n l w hn hl hle hr x0 x1 x2 x3 hx _ rfl
    have e : (!(U (w4 x0 x1 x2 x3) != U (Crc.sum (l.take n)))) = good := by
      have ho : Crc.opens l ↔ Crc.sum (l.take n) = Crc.word (l.drop n) := by unfold Crc.opens; rw [hn, Nat.add_sub_cancel]
      rw [Bool.eq_iff_iff, hg, ho, hw]
      simp only [Bool.not_eq_true', bne_eq_false_iff_eq]
      exact ⟨fun h => (U_inj h).symm, fun h => by rw [h]⟩
    rw [e] at key
    rw [Nat.add_sub_cancel]
    exact key
theorem RRd.new_at (w : World) (A : Option Addr) (cap : Nat) (l : List UInt8) (h : Arg w A cap l) : RRd (w.alloc (.cells #[.slice A l.length cap, .int .i64 0, .int .i64 0, .bool false, .int .i64 0] 109)) A cap w.heap.size l (fine 0) := by
  have hb : Below w.heap.size w (w.alloc (.cells #[.slice A l.length cap, .int .i64 0, .int .i64 0, .bool false, .int .i64 0] 109)) := balloc (Below.refl _ _) _
  refine ⟨by simp, fun k => by simp [go_sem], ⟨Nat.zero_le _, .inl ⟨rfl, rfl⟩⟩, ?_, ?_, ?_, ?_, ?_, h.below hb (Nat.le_refl _), fun b off e hl => ?_, fun k hk => ?_⟩
  · rw [World.cell?_alloc_mark]; rfl
  · rw [World.cell?_alloc_mark]; rfl
  · rw [World.cell?_alloc_mark]; rfl
  · rw [World.cell?_alloc_mark]; rfl
  · rw [World.cell?_alloc_mark]; rfl
  · rcases h.reads with h0 | ⟨b', off', e', hlt, _⟩
    · exact absurd h0 hl
    · rw [e] at e'
      injection e' with e'
      injection e' with e1
      omega
  · rw [World.cell?_alloc_mark]
    simp
    omega
theorem over_bad {l : List UInt8} {s : Vi.Rs} {X : Nat × Option Nat} (h : (over l s).code ≠ 0) : (if s.code ≠ 0 then (s.code, s.pos) else if s.at_ < l.length then (103, some s.at_) else X) = ((over l s).code, (over l s).pos) := by
  unfold over at *
  by_cases hc : s.code = 0
  · by_cases ha : s.at_ < l.length
    · simp [hc, ha, Vi.Rs.fail]
    · simp [hc, ha] at h
  · simp [hc]
theorem over_good {l : List UInt8} {s : Vi.Rs} {X : Nat × Option Nat} (h : (over l s).code = 0) : (if s.code ≠ 0 then (s.code, s.pos) else if s.at_ < l.length then (103, some s.at_) else X) = X := by
  unfold over at *
  by_cases hc : s.code = 0
  · by_cases ha : s.at_ < l.length
    · simp [hc, ha, Vi.Rs.fail] at h
    · simp [hc, ha]
  · simp [hc] at h
theorem ownsRow_mono {w : World} {base base' : Nat} {e : TypeId} {size n : Nat} {v : Value} {xs : List Value} (h : w.ownsRow base e size v n xs) (hb : base' ≤ base) : w.ownsRow base' e size v n xs := by
  refine ⟨h.1, ?_⟩
  rcases h.2 with h2 | ⟨g, cap, cur, e1, hg, r⟩
  · exact .inl h2
  · exact .inr ⟨g, cap, cur, e1, by omega, r⟩
theorem fault_set {w W : World} (h : W.heap[w.heap.size]? = some (.cells #[.int .i64 0, .bool false, .int .i64 0] 47 (0, 0))) (hb : Below w.heap.size w W) (c : Int) (b : Bool) (p : Int) :
    ∃ W9, W9 = ((W.setCell ⟨w.heap.size, 0, none⟩ (.int .i64 c)).setCell ⟨w.heap.size, 1, none⟩ (.bool b)).setCell ⟨w.heap.size, 2, none⟩ (.int .i64 p) ∧ Below w.heap.size w W9 ∧ W9.cell? ⟨w.heap.size, 0, none⟩ = some (.int .i64 c) ∧ W9.cell? ⟨w.heap.size, 1, none⟩ = some (.bool b) ∧ W9.cell? ⟨w.heap.size, 2, none⟩ = some (.int .i64 p) ∧ ∀ k, k ≠ w.heap.size → W9.heap[k]? = W.heap[k]? := by
  refine ⟨_, rfl, bset (bset (bset hb 0 _) 1 _) 2 _, ?_, ?_, ?_, fun k hk => (Below.heap_setCell _ _ _ _ hk).trans ((Below.heap_setCell _ _ _ _ hk).trans (Below.heap_setCell _ _ _ _ hk))⟩
  · rw [World.cell?_setCell_other _ _ _ _ (by simp), World.cell?_setCell_other _ _ _ _ (by simp)]
    exact World.cell?_setCell_same _ _ _ (box_cell h 0)
  · rw [World.cell?_setCell_other _ _ _ _ (by simp)]
    exact World.cell?_setCell_same _ _ _ ((World.cell?_setCell_other _ _ _ _ (by simp)).trans (box_cell h 1))
  · exact World.cell?_setCell_same _ _ _ ((World.cell?_setCell_other _ _ _ _ (by simp)).trans ((World.cell?_setCell_other _ _ _ _ (by simp)).trans (box_cell h 2)))
set_option maxRecDepth 100000 in
set_option maxHeartbeats 4000000 in
theorem qRead_good (A : Option Addr) (cap : Nat) (b : List UInt8) (w : World) (hg : Crc.opens b) (h4 : 4 ≤ b.length) (hl : b.length ≤ 1000000) (ha : Arg w A cap b) :
    Calls Tryd.prog 21 #[.slice A b.length cap] w fun e w' => Below w.heap.size w w' ∧
      ∃ q, q = Ix.fault (b.take (b.length - 4)) ∧ ((q.1 ≠ 0 ∧ e = .returned (.tuple #[.pointer none, faultV (q.1 : Nat) q.2.isSome ((q.2.getD 0 : Nat) : Int)])) ∨
        (q = (0, none) ∧ ∃ Z v, e = .returned (.tuple #[.pointer (some ⟨Z, 0, none⟩), faultV 0 false 0]) ∧ w'.cell? ⟨Z, 1, none⟩ = some v ∧ w'.ownsRow w.heap.size 110 3 v (Ix.read (b.take (b.length - 4))).marks.length ((Ix.read (b.take (b.length - 4))).marks.flatMap mkCells))) := by
  obtain ⟨l, hle⟩ : ∃ l, l = b.take (b.length - 4) := ⟨_, rfl⟩
  obtain ⟨n, hn⟩ : ∃ n, n = b.length - 4 := ⟨_, rfl⟩
  have hln : l.length = n := by rw [hle, List.length_take, hn]; omega
  have hnb : n ≤ 1000000 := by omega
  have hw0 : Below w.heap.size w (w.alloc (.cells #[.int .i64 0, .bool false, .int .i64 0] 47)) := balloc (Below.refl _ _) _
  have HO := hide (qOpen_at A cap b _ true ⟨fun _ => hg, fun _ => rfl⟩ h4 hl (ha.below hw0 (Nat.le_refl _)))
  have HAL : Hid (Arg w A cap l) := hide (by rw [hle]; exact ha.first _)
  have HA0 : Hid (l ≠ [] → ∀ b' off, A = some ⟨b', off, none⟩ → b' < w.heap.size) := hide (fun hl' b' off e => by
    rcases HAL.out.reads with h0 | ⟨b2, off2, e2, hlt, _⟩
    · exact absurd h0 hl'
    · rw [e] at e2; injection e2 with e2; injection e2 with e2 _; omega)
  rw [← hle]
  rw [← hn] at HO
  have HLN := hide hln
  have HLL : Hid (l.length ≤ 1000000) := hide (by omega)
  have hm1 := num_le l (fine 0) 1048576
  have hm2 := num_le l (Vi.num l (fine 0) 1048576).2 4096
  have HH1 : Hid (Ix.head1 l = Vi.num l (fine 0) 1048576) := hide rfl
  have HTL : Hid (Ix.tail l = Ix.rloop l (Vi.num l (Vi.num l (fine 0) 1048576).2 4096).1 (Vi.num l (Vi.num l (fine 0) 1048576).2 4096).1 (Vi.num l (Vi.num l (fine 0) 1048576).2 4096).2 []) := hide rfl
  have HN1 := hide (fun W g (hr : RRd W A cap g l (fine 0)) => rnum_any W A cap g l (fine 0) 1048576 hr HLL.out)
  have HN2 := hide (fun W g s (hr : RRd W A cap g l s) => rnum_any W A cap g l s 4096 hr HLL.out)
  simp only [show ((1048576 : Nat) : Int) = 1048576 from rfl] at HN1
  simp only [show ((4096 : Nat) : Int) = 4096 from rfl] at HN2
  generalize hN1 : Vi.num l (fine 0) 1048576 = N1 at *
  obtain ⟨ev, s1⟩ := N1
  simp only at hm1 hm2 HN1 HTL
  generalize hN2 : Vi.num l s1 4096 = N2 at *
  obtain ⟨M, s0⟩ := N2
  simp only at hm2 HTL
  have HN2' : Hid (∀ W g, RRd W A cap g l s1 → Calls Tryd.prog 56 #[.pointer (some ⟨g, 0, none⟩), .int .u64 4096] W fun e w' => e = .returned (.int .u64 M) ∧ RRd w' A cap g l s0 ∧ But g W w') := hide (fun W g hr => by
    have h := HN2.out W g s1 hr
    rw [hN2] at h; exact h)
  have hwe : IntKind.i64.wrap (ev : Int) = (ev : Int) := by rw [IntKind.wrap_i64]; omega
  have hwM : IntKind.i64.wrap (M : Int) = (M : Int) := by rw [IntKind.wrap_i64]; omega
  have HQ : Hid (Ix.fault l = if (Ix.tail l).2.code ≠ 0 then ((Ix.tail l).2.code, (Ix.tail l).2.pos) else if (Ix.tail l).2.at_ < l.length then (103, some (Ix.tail l).2.at_) else if (Ix.riseB (Ix.tail l).1 && Ix.rightB (Ix.tail l).1) = false then (103, none) else if ev < 1 then (105, none) else (0, none)) := hide (by unfold Ix.fault; rw [HH1.out])
  have HRD : Hid ((Ix.read l).marks = (Ix.tail l).1) := hide rfl
  clear HN2 hN1 hN2 ha hg hle hn hln
  go_enter Tryd.func21, Tryd.ntmps21
  go_upto_region 4 with (first
    | (go_at_call 54; refine HO.out.mono ?_; rintro e w1 ⟨hb, he⟩; simp only [if_true] at he; subst he; have HB1 := hide (hw0.trans (hb.mono hw0.size)); have HGL : Hid (w.heap.size < w1.heap.size) := hide (by have := hb.size; simp at this; omega); have HRS : Hid (w1.heap[w.heap.size]? = some (.cells #[.int .i64 0, .bool false, .int .i64 0] 47 (0, 0))) := hide ((hb.block w.heap.size (by simp)).trans (heap_alloc_new _ _)); clear hb)
    | fail)
  have hb1 : Below w1.heap.size w1 (w1.alloc (.cells #[.slice A n cap, .int .i64 0, .int .i64 0, .bool false, .int .i64 0] 109)) := balloc (Below.refl _ _) _
  have HR := hide (RRd.new_at w1 A cap l (HAL.out.below HB1.out (Nat.le_refl _)))
  rw [HLN.out] at HR
  have HB2 := hide (HB1.out.trans (hb1.mono HB1.out.size))
  have HRS2 := hide ((hb1.block _ HGL.out).trans HRS.out)
  clear hb1 HB1
  go_upto_region 6 with (first
    | (go_at_call 56; refine (HN1.out _ _ HR.out).mono ?_; rintro e w3 ⟨rfl, hr3, hb3⟩; have HR3 := hide hr3; have HB3 := hide (hb3.bel HB2.out HB2.out.size (Nat.le_of_lt HGL.out)); have HRS3 := hide ((hb3.block _ (Array.getElem?_eq_some_iff.1 HRS2.out).1 (by have := HGL.out; simp; omega)).trans HRS2.out); clear hr3 hb3)
    | fail)
  clear HR HN1 HB2
  go_upto_region 8 with (first
    | (go_at_call 56; refine (HN2'.out _ _ HR3.out).mono ?_; rintro e w4 ⟨rfl, hr4, hb4⟩; have HR4 := hide hr4; have HB4 := hide (hb4.bel HB3.out HB3.out.size (Nat.le_of_lt HGL.out)); have HRS4 := hide ((hb4.block _ (Array.getElem?_eq_some_iff.1 HRS3.out).1 (by have := HGL.out; simp; omega)).trans HRS3.out); clear hr4 hb4)
    | fail)
  clear HR3 HN2' HB3
  go_upto_region 9 with fail
  have HST : Hid (QmSt w (w4.alloc (.cells #[.int .i64 0, .int .i64 0, .int .i64 0] 110)) A cap w1.heap.size l s0 w4.heap.size Ix.z0 (.slice none 0 0) []) := hide (by
    have hb : Below w4.heap.size w4 (w4.alloc (.cells #[.int .i64 0, .int .i64 0, .int .i64 0] 110)) := balloc (Below.refl _ _) _
    exact ⟨HR4.out.below hb, HA0.out, heap_alloc_new _ _, World.ownsRow_nil _ _ _ _, HB4.out.trans (hb.mono HB4.out.size), HGL.out, (hb.block _ (Array.getElem?_eq_some_iff.1 HRS4.out).1).trans HRS4.out, HR4.out.lt, fun e => by cases e⟩)
  clear HR4 HB4 HRS HRS2 HRS3 HRS4
  go_upto_block 0 with fail
  go_cut [9] from 35 to 73 (fun v wx => ∃ (ms : List Ix.Mark) (s' : Vi.Rs) (a : Ix.Mark), QmSt w wx A cap w1.heap.size l s' w4.heap.size a v ms ∧ Ix.tail l = (ms, s') ∧ ms.length ≤ 4096)
  case first =>
    go_wp2_with fail
    go_loopw [9, 11, 12] (fun v iv _ wr => ∃ (ms : List Ix.Mark) (s' : Vi.Rs), QmSt w wr A cap w1.heap.size l s' w4.heap.size (Ix.lastFrom Ix.z0 ms) v ms ∧ Ix.rloop l M M s0 [] = Ix.rloop l M (M - ms.length) s' ms ∧ ms.length ≤ M ∧ Far (Ix.lastFrom Ix.z0 ms) ms.length ∧ iv = .int .i64 ms.length) (fun _ iv _ _ => M - (intOf iv).toNat)
    case atStart => exact ⟨[], s0, HST.out, by simp, Nat.zero_le _, ⟨⟨by show (0 : Int) ≤ 0; omega, by show (0 : Int) ≤ 0; omega⟩, ⟨by show (0 : Int) ≤ 0; omega, by show (0 : Int) ≤ 0; omega⟩, by show (0 : Int) ≤ 0; omega, by show (0 : Int) ≤ 0; omega⟩, rfl⟩
    case round =>
      obtain ⟨ms, s2, hst, hlp, hmM, hfar, rfl⟩ := hrel
      obtain ⟨A5, n5, c5, rfl⟩ := own_slice hst.own
      have hn : n5 = ms.length := by
        rcases hst.own.2 with ⟨e, k⟩ | ⟨g', cap, cur, e, _⟩
        · injection e with _ e1 _; omega
        · injection e
      subst hn
      have HST := hide hst
      have HLP := hide hlp
      have HFAR := hide hfar
      have HFINE := hide (fun b hb => fine_any wr A cap w1.heap.size l s2 b hst.rd hb)
      clear hst hlp hfar
      by_cases hlt : ms.length < M
      · have dlt : decide ((ms.length : Int) < M) = true := decide_eq_true (by omega)
        by_cases hc : s2.code = 0
        · have HON := hide (Ix.rloop_on l M s2 ms hlt hc)
          have HFS := hide (far_step l s2 _ _ HFAR.out)
          have HN1 := hide (fun W (hr : RRd W A cap w1.heap.size l s2) => rnum_any W A cap w1.heap.size l s2 1099511627776 hr HLL.out)
          simp only [show ((1099511627776 : Nat) : Int) = 1099511627776 from rfl] at HN1
          have b1 := num_le l s2 1099511627776
          have HE : Hid (Ix.rstep l s2 (Ix.lastFrom Ix.z0 ms) = (⟨(Ix.lastFrom Ix.z0 ms).off + (Vi.num l s2 1099511627776).1, (Ix.lastFrom Ix.z0 ms).time + (Vi.int l (Vi.num l s2 1099511627776).2 (-4398046511104) 4398046511104).1, (Ix.lastFrom Ix.z0 ms).pos + (Vi.num l (Vi.int l (Vi.num l s2 1099511627776).2 (-4398046511104) 4398046511104).2 1073741824).1⟩, (Vi.num l (Vi.int l (Vi.num l s2 1099511627776).2 (-4398046511104) 4398046511104).2 1073741824).2)) := hide rfl
          have HLF := hide (Ix.lastFrom_snoc ms Ix.z0 (Ix.rstep l s2 (Ix.lastFrom Ix.z0 ms)).1)
          obtain ⟨a, ha⟩ : ∃ a, a = Ix.lastFrom Ix.z0 ms := ⟨_, rfl⟩
          rw [← ha] at HST HE HFAR HON HFS HLF
          clear ha
          generalize hN1 : Vi.num l s2 1099511627776 = N1 at *
          obtain ⟨n1, s3⟩ := N1
          simp only at b1 HE HN1
          have b2 := int_le l s3 (-4398046511104) 4398046511104 (by omega) (by omega)
          have HN2 := hide (fun W (hr : RRd W A cap w1.heap.size l s3) => rint_any W A cap w1.heap.size l s3 (-4398046511104) 4398046511104 hr HLL.out)
          generalize hN2 : Vi.int l s3 (-4398046511104) 4398046511104 = N2 at *
          obtain ⟨n2, s4⟩ := N2
          simp only at b2 HE HN2
          have b3 := num_le l s4 1073741824
          have HN3 := hide (fun W (hr : RRd W A cap w1.heap.size l s4) => rnum_any W A cap w1.heap.size l s4 1073741824 hr HLL.out)
          simp only [show ((1073741824 : Nat) : Int) = 1073741824 from rfl] at HN3
          generalize hN3 : Vi.num l s4 1073741824 = N3 at *
          obtain ⟨n3, s5⟩ := N3
          simp only at b3 HE HN3
          clear hN1 hN2 hN3
          rw [HE.out] at HON HFS HLF
          simp only at HON HFS HLF
          obtain ⟨ao, at_, ap⟩ := a
          simp only at HON HFS HLF
          obtain ⟨⟨f1, f2⟩, ⟨f3, f4⟩, f5, f6⟩ := HFAR.out
          simp only at f1 f2 f3 f4 f5 f6
          have hw1 : IntKind.i64.wrap (n1 : Int) = (n1 : Int) := by rw [IntKind.wrap_i64]; omega
          have hw2 : IntKind.i64.wrap (ao + (n1 : Int)) = ao + (n1 : Int) := by rw [IntKind.wrap_i64]; omega
          have hw3 : IntKind.i64.wrap (at_ + n2) = at_ + n2 := by rw [IntKind.wrap_i64]; omega
          have hw4 : IntKind.i64.wrap (n3 : Int) = (n3 : Int) := by rw [IntKind.wrap_i64]; omega
          have hw5 : IntKind.i64.wrap (ap + (n3 : Int)) = ap + (n3 : Int) := by rw [IntKind.wrap_i64]; omega
          have hz := HST.out.glt
          have hne : w4.heap.size ≠ w1.heap.size := by have := HST.out.lo; omega
          clear HE HFAR f1 f2 f3 f4 f5 f6 b1 b2 b3
          go_upto_region 12 with (first
            | (go_at_call 57; refine (HFINE.out true (by rw [hc]; rfl)).mono ?_; rintro e w9 ⟨rfl, rfl⟩)
            | fail)
          obtain ⟨⟨k0, -, -⟩, ff0, -, -⟩ := HST.out.cells
          simp only at k0
          have HMK := hide (HST.out.made ⟨0, 0, 0⟩)
          have hzA : w4.heap.size < (wr.alloc (.cells (qCells ⟨0, 0, 0⟩) 110)).heap.size := by simp; omega
          go_cut [12] from 35 to 68 (fun mv wx => ∃ g12, mv = .pointer (some ⟨g12, 0, none⟩) ∧ QmM w wx A cap w1.heap.size l s3 w4.heap.size ⟨ao, at_, ap⟩ g12 ⟨ao + (n1 : Int), 0, 0⟩ (.slice A5 ms.length c5) ms)
          case first =>
            go_region_law
              (first
                | (go_simp; go_at_call 56; (with_reducible refine (HN1.out _ (HST.out.rd.below (Below.refl _ _).drew)).mono ?_); rintro e w7 ⟨rfl, hr7, hb7⟩; have hk7 : w7.cell? ⟨w4.heap.size, 0, none⟩ = some (.int .i64 ao) := (hb7.cell (b := w4.heap.size) (o := 0) hz hne).trans k0; have hf7 : w7.frozen? ⟨w4.heap.size, 0, none⟩ = false := (hb7.frozen (b := w4.heap.size) (o := 0) hz hne).trans ff0; have hlt7 : w4.heap.size < w7.heap.size := Nat.lt_of_lt_of_le (show _ < wr.drew.heap.size from hz) hb7.size; have hkA : ∀ o, (w7.alloc o).cell? ⟨w4.heap.size, 0, none⟩ = some (.int .i64 ao) := fun o => ((balloc (Below.refl _ _) o).cell (p := ⟨w4.heap.size, 0, none⟩) hlt7).trans hk7)
                | (go_simp; go_at_call 56; (with_reducible refine (HN1.out _ (HMK.out.st.rd.below (Below.refl _ _).drew)).mono ?_); rintro e w7 ⟨rfl, hr7, hb7⟩; have hk7 : w7.cell? ⟨w4.heap.size, 0, none⟩ = some (.int .i64 ao) := (hb7.cell (b := w4.heap.size) (o := 0) hzA hne).trans HMK.out.st.cells.1.1; have hf7 : w7.frozen? ⟨w4.heap.size, 0, none⟩ = false := (hb7.frozen (b := w4.heap.size) (o := 0) hzA hne).trans HMK.out.st.cells.2.1; have HQ7 := hide ((HMK.out.quiet (Below.refl _ _).drew).call hr7 hb7); obtain ⟨⟨q1, q2, q3⟩, q4, q5, q6⟩ := HQ7.out.cells; simp only at q1 q2 q3)
                | fail)
            all_goals
              go_wp2_with fail
              go_meet
              first
                | exact ⟨_, rfl, ((HST.out.quiet (Below.refl _ _).drew).call hr7 hb7).made ⟨ao + (n1 : Int), 0, 0⟩⟩
                | exact ⟨_, rfl, ((HQ7.out.set2 0 (.int .i64 (ao + (n1 : Int))) ⟨ao + (n1 : Int), 0, 0⟩ rfl).set2 1 (.int .i64 0) ⟨ao + (n1 : Int), 0, 0⟩ rfl).set2 2 (.int .i64 0) ⟨ao + (n1 : Int), 0, 0⟩ rfl⟩
          case rest =>
            obtain ⟨g12, rfl, ht⟩ := hcut
            have HT := hide ht
            clear ht k0 ff0 HN1 HST HFINE HMK hzA hz hne hw1 hw2
            have hz := HT.out.st.glt
            have hz2 := HT.out.glt
            have hne : w4.heap.size ≠ w1.heap.size := by have := HT.out.st.lo; omega
            have hne2 : g12 ≠ w1.heap.size := by have := HT.out.lo2; omega
            obtain ⟨⟨-, k0, -⟩, -⟩ := HT.out.st.cells
            obtain ⟨-, -, ff0, -⟩ := HT.out.cells
            simp only at k0
            go_upto_region 13 with fail
            go_cut [] from 35 to 68 (fun wx => QmM w wx A cap w1.heap.size l s4 w4.heap.size ⟨ao, at_, ap⟩ g12 ⟨ao + (n1 : Int), at_ + n2, 0⟩ (.slice A5 ms.length c5) ms)
            case first =>
              go_region_law
                (first
                  | (go_simp; go_at_call 58; (with_reducible refine (HN2.out _ (HT.out.st.rd.below (Below.refl _ _).drew)).mono ?_); rintro e w7 ⟨rfl, hr7, hb7⟩; have hk7 : w7.cell? ⟨w4.heap.size, 1, none⟩ = some (.int .i64 at_) := (hb7.cell (b := w4.heap.size) (o := 1) hz hne).trans k0; have hf7 : w7.frozen? ⟨g12, 1, none⟩ = false := (hb7.frozen (b := g12) (o := 1) hz2 hne2).trans ff0; have hq7 : w7.cell? ⟨g12, 1, none⟩ = some (.int .i64 0) := (hb7.cell (b := g12) (o := 1) hz2 hne2).trans HT.out.cells.1.2.1)
                  | fail)
              all_goals
                go_wp2_with fail
                go_meet
                exact ((HT.out.quiet (Below.refl _ _).drew).call hr7 hb7).set2 1 (.int .i64 (at_ + n2)) ⟨ao + (n1 : Int), at_ + n2, 0⟩ rfl
            case rest =>
              have HU := hide hcut
              clear hcut k0 ff0 HN2 HT hz hz2 hw3
              have hz := HU.out.st.glt
              have hz2 := HU.out.glt
              obtain ⟨⟨-, -, k0⟩, -⟩ := HU.out.st.cells
              obtain ⟨-, -, -, ff0⟩ := HU.out.cells
              simp only at k0
              go_upto_region 14 with fail
              go_cut [] from 35 to 68 (fun wx => QmM w wx A cap w1.heap.size l s5 w4.heap.size ⟨ao, at_, ap⟩ g12 ⟨ao + (n1 : Int), at_ + n2, ap + (n3 : Int)⟩ (.slice A5 ms.length c5) ms)
              case first =>
                go_region_law
                  (first
                    | (go_simp; go_at_call 56; (with_reducible refine (HN3.out _ (HU.out.st.rd.below (Below.refl _ _).drew)).mono ?_); rintro e w7 ⟨rfl, hr7, hb7⟩; have hk7 : w7.cell? ⟨w4.heap.size, 2, none⟩ = some (.int .i64 ap) := (hb7.cell (b := w4.heap.size) (o := 2) hz hne).trans k0; have hf7 : w7.frozen? ⟨g12, 2, none⟩ = false := (hb7.frozen (b := g12) (o := 2) hz2 hne2).trans ff0; have hq7 : w7.cell? ⟨g12, 2, none⟩ = some (.int .i64 0) := (hb7.cell (b := g12) (o := 2) hz2 hne2).trans HU.out.cells.1.2.2)
                    | fail)
                all_goals
                  go_wp2_with fail
                  go_meet
                  exact ((HU.out.quiet (Below.refl _ _).drew).call hr7 hb7).set2 2 (.int .i64 (ap + (n3 : Int))) ⟨ao + (n1 : Int), at_ + n2, ap + (n3 : Int)⟩ rfl
              case rest =>
                have HV := hide hcut
                clear hcut k0 ff0 HN3 HU hz hz2 hne hne2 hw4 hw5
                generalize ao + (n1 : Int) = bo at *
                generalize at_ + n2 = bt at *
                generalize ap + (n3 : Int) = bp at *
                obtain ⟨⟨k0, k1, k2⟩, -⟩ := HV.out.cells
                simp only at k0 k1 k2
                have hmb : ms.length ≤ 4096 := by omega
                rename World => wv
                go_wp2_with (first
                  | (at_builtin; refine wpList_appG (w := wv.alloc _) rfl 54 110 3 24 _ (by kernel_rfl) qmark_info rfl (by omega) (.tmp 64) (.tmp 66) rfl (w1.heap.size + 1) _ ms.length (ms.flatMap mkCells) rfl (HV.out.quiet (balloc (Below.refl _ _) _)).st.own ⟨wv.heap.size, 0, none⟩ 1 1 (mkCells ⟨bo, bt, bp⟩) rfl rfl (news3 (w := wv)) (by intro u hu; simp [mkCells] at hu; rcases hu with rfl | rfl | rfl <;> rfl) (by simp only [maxLen]; omega) (by omega) (by have := HV.out.st.lo; have := HV.out.st.glt; simp; omega) ?_; intro v8 w8 hown8 hg8 hv8; have HP := hide (HV.out.push rfl hg8 hown8 hv8); clear hown8 hg8 hv8; obtain ⟨⟨r0, r1, r2⟩, -⟩ := HP.out.cells; obtain ⟨⟨p0, p1, p2⟩, p3, p4, p5⟩ := HP.out.st.cells; simp only at r0 r1 r2 p0 p1 p2)
                  | fail)
                go_roundw
                case rel =>
                  refine ⟨ms ++ [⟨bo, bt, bp⟩], s5, ?_, ?_, by simp; omega, ?_, by simp⟩
                  · rw [HLF.out]; exact (((HP.out.set1 0 (.int .i64 bo) ⟨bo, at_, ap⟩ rfl).set1 1 (.int .i64 bt) ⟨bo, bt, ap⟩ rfl).set1 2 (.int .i64 bp) ⟨bo, bt, bp⟩ rfl).st
                  · rw [HLP.out, HON.out]
                  · rw [HLF.out, List.length_append]; exact HFS.out
                case measure => simp [intOf]; omega
        · have HEND := hide (Ix.rloop_end l M s2 ms (fun hh => hc hh.2))
          go_wp2_with (first
            | (go_at_call 57; refine (HFINE.out false (by simp [hc])).mono ?_; rintro e w9 ⟨rfl, rfl⟩)
            | fail)
          have HT2 : Hid (Ix.tail l = (ms, s2)) := hide (by rw [HTL.out, HLP.out, HEND.out])
          go_meet
          exact ⟨ms, s2, _, HST.out, HT2.out, by omega⟩
      · have HEND := hide (Ix.rloop_end l M s2 ms (fun hh => hlt hh.1))
        have dlt : decide ((ms.length : Int) < M) = false := decide_eq_false (by omega)
        go_wp2_with fail
        have HT2 : Hid (Ix.tail l = (ms, s2)) := hide (by rw [HTL.out, HLP.out, HEND.out])
        go_meet
        exact ⟨ms, s2, _, HST.out, HT2.out, by omega⟩
  case rest =>
    obtain ⟨ms, s2, ma, hst, ht, hml⟩ := hcut
    have HST := hide hst
    have HT2 := hide ht
    have hmp : ∀ m ∈ ms, 0 ≤ m.pos := by have := Ix.tail_pos l; rwa [ht] at this
    have HJA := hide (Ix.okJ_all ms hmp)
    have HMP := hide hmp
    clear hst ht HTL hmp
    go_upto_region 18 with (first
      | (go_at_call 59; refine (qOver_any _ A cap w1.heap.size l s2 HST.out.rd HLL.out).mono ?_; rintro e w5 ⟨rfl, hr5, hb5⟩; have HQ5 := hide (HST.out.call hr5 hb5); clear hr5 hb5)
      | fail)
    obtain ⟨s6, hs6⟩ : ∃ s6, s6 = over l s2 := ⟨_, rfl⟩
    rw [← hs6] at HQ5
    have HS6 := hide hs6
    clear hs6 HST
    by_cases ho : s6.code = 0
    · have HQ6 : Hid (Ix.fault l = if (Ix.riseB ms && Ix.rightB ms) = false then (103, none) else if ev < 1 then (105, none) else (0, none)) := hide (by rw [HQ.out, HT2.out]; exact over_good (by rw [← HS6.out]; exact ho))
      have HF2 := hide (fine_any w5 A cap w1.heap.size l s6 true HQ5.out.rd (by rw [ho]; rfl))
      obtain ⟨A5, c5, e5, hc5, hma⟩ := qmarks_at HQ5.out.own
      subst e5
      have HC := hide hma.at_
      have hc := hma.le
      have HRES := hide HQ5.out.res
      have HB5 := hide HQ5.out.bel
      have HMA5 := hide hma
      have HGL5 : Hid (w.heap.size < w5.heap.size) := hide HQ5.out.rlt
      obtain ⟨n2, hn2⟩ : ∃ n2, n2 = ms.length := ⟨_, rfl⟩
      rw [← hn2] at HC hc hml HJA ⊢
      have HN2 := hide hn2
      clear hma hn2 HQ5 HQ HS6
      go_upto_block 2 with (first
        | (go_at_call 57; refine HF2.out.mono ?_; rintro e w9 ⟨rfl, rfl⟩)
        | fail)
      clear HF2
      go_wp2_with fail
      go_loopw [13] (fun iv wr => ∃ j : Nat, j ≤ n2 ∧ iv = .int .i64 j ∧ (∀ i, i < j → Ix.okJ ms i) ∧ ∃ q, wr = w5.drewN q) (fun iv _ => n2 - (intOf iv).toNat)
      case atStart => exact ⟨0, Nat.zero_le _, rfl, fun i h => absurd h (Nat.not_lt_zero _), 0, rfl⟩
      case round =>
        obtain ⟨j, hj, rfl, hok, q, hq⟩ := hrel
        have HOK := hide hok
        have HQQ := hide hq
        clear hok
        by_cases hjn : j < n2
        · obtain ⟨g, rfl, hgl, a0, a1, a2⟩ := HC.out j hjn
          have dj : decide ((j : Int) < n2) = true := decide_eq_true (by omega)
          have b0 : wr.cell? ⟨g, j * 3, none⟩ = some (.int .i64 (ms.getD j Ix.z0).off) := by rw [hq]; exact a0
          have b2 : wr.cell? ⟨g, j * 3 + 2, none⟩ = some (.int .i64 (ms.getD j Ix.z0).pos) := by rw [hq]; exact a2
          clear hq
          go_upto_region 23 with fail
          go_cut [14] from 84 to 113 (fun u wx => u = .bool (Ix.upB ms j) ∧ ∃ q, wx = w5.drewN q)
          case first =>
            cases j with
            | zero =>
              go_quiet (fail)
              rename Nat => q1
              go_wp2_with fail
              go_meet
              exact ⟨rfl, by rw [HQQ.out, World.drewN_drewN]; exact ⟨_, rfl⟩⟩
            | succ i =>
              obtain ⟨g', eg, -, d0, -, d2⟩ := HC.out i (by omega)
              obtain rfl : g' = g := by injection eg with eg; injection eg with eg; exact eg.symm
              replace d0 : wr.cell? ⟨g', i * 3, none⟩ = some (.int .i64 (ms.getD i Ix.z0).off) := by rw [HQQ.out]; exact d0
              replace d2 : wr.cell? ⟨g', i * 3 + 2, none⟩ = some (.int .i64 (ms.getD i Ix.z0).pos) := by rw [HQQ.out]; exact d2
              have HU : Hid (Ix.upB ms (i + 1) = (decide ((ms.getD i Ix.z0).off < (ms.getD (i + 1) Ix.z0).off) && decide ((ms.getD i Ix.z0).pos < (ms.getD (i + 1) Ix.z0).pos))) := hide (by unfold Ix.upB; simp)
              have hz : (((i : Int) + 1) == 0) = false := by simp; omega
              have hwj : IntKind.i64.wrap ((i : Int) + 1 - 1) = (i : Int) := by rw [IntKind.wrap_i64]; omega
              generalize (ms.getD i Ix.z0).off = x0 at *
              generalize (ms.getD i Ix.z0).pos = x2 at *
              generalize (ms.getD (i + 1) Ix.z0).off = y0 at *
              generalize (ms.getD (i + 1) Ix.z0).pos = y2 at *
              clear a0 a1 a2
              by_cases h0 : x0 < y0
              · have e0 : decide (x0 < y0) = true := decide_eq_true h0
                clear h0
                go_quiet (fail)
                rename Nat => q1
                go_wp2_with fail
                go_meet
                exact ⟨by rw [HU.out, e0]; simp, by rw [HQQ.out, World.drewN_drewN]; exact ⟨_, rfl⟩⟩
              · have e0 : decide (x0 < y0) = false := decide_eq_false h0
                clear h0
                go_quiet (fail)
                rename Nat => q1
                go_wp2_with fail
                go_meet
                exact ⟨by rw [HU.out, e0]; simp, by rw [HQQ.out, World.drewN_drewN]; exact ⟨_, rfl⟩⟩
          case rest =>
            obtain ⟨hu, q2, hq2⟩ := hcut
            subst hu
            rename World => wx
            have HQX2 := hide hq2
            have HBX : Hid (Below w.heap.size w wx) := hide (by rw [hq2]; exact below_drewN HB5.out _)
            have HRX : Hid (wx.heap[w.heap.size]? = some (.cells #[.int .i64 0, .bool false, .int .i64 0] 47 (0, 0))) := hide (by rw [hq2]; exact HRES.out)
            have HGLX : Hid (w.heap.size < wx.heap.size) := hide (by rw [hq2]; exact HGL5.out)
            have a0' : wx.cell? ⟨g, j * 3, none⟩ = some (.int .i64 (ms.getD j Ix.z0).off) := by rw [hq2]; exact a0
            have a1' : wx.cell? ⟨g, j * 3 + 1, none⟩ = some (.int .i64 (ms.getD j Ix.z0).time) := by rw [hq2]; exact a1
            have a2' : wx.cell? ⟨g, j * 3 + 2, none⟩ = some (.int .i64 (ms.getD j Ix.z0).pos) := by rw [hq2]; exact a2
            have HBAD : Hid (¬ Ix.okJ ms j → Ix.fault l = (103, none)) := hide (fun h => by
              have hf : (Ix.riseB ms && Ix.rightB ms) = false := by
                cases hb : (Ix.riseB ms && Ix.rightB ms) with
                | false => rfl
                | true => exact absurd (HJA.out.1 hb j hjn) h
              rw [HQ6.out, if_pos hf])
            have HOJ : Hid (Ix.okJ ms j ↔ (Ix.upB ms j = true ∧ Ix.okO (ms.getD j Ix.z0).off ∧ Ix.okT (ms.getD j Ix.z0).time ∧ (ms.getD j Ix.z0).pos ≤ 1073741824)) := hide Iff.rfl
            clear a0 a1 a2 b0 b2 hq2 HQ6 HQQ
            generalize (ms.getD j Ix.z0).off = x0 at *
            generalize (ms.getD j Ix.z0).time = x1 at *
            generalize (ms.getD j Ix.z0).pos = x2 at *
            have HO := hide (fun V => qRight_any x0 V)
            have HT := hide (fun V => qTime_any x1 V)
            go_upto_region 24 with fail
            go_cut [14, 141] from 114 to 142 (fun _ u wy => wy = wx ∧ ((u = .bool true ∧ Ix.fault l = (103, none)) ∨ (u = .bool false ∧ Ix.okJ ms j)))
            case first =>
              cases hup : Ix.upB ms j with
              | false =>
                have HQX := hide (HBAD.out (fun h => by have := (HOJ.out.1 h).1; rw [hup] at this; cases this))
                go_wp2_with (first
                  | (go_at_call 60; refine (HO.out _).mono ?_; rintro e w2 ⟨rfl, e⟩; subst e)
                  | (go_at_call 61; refine (HT.out _).mono ?_; rintro e w2 ⟨rfl, e⟩; subst e)
                  | fail)
                go_meet
                exact ⟨rfl, .inl ⟨rfl, HQX.out⟩⟩
              | true =>
                by_cases h0 : Ix.okO x0
                · rw [decide_eq_true h0] at HO
                  by_cases h1 : Ix.okT x1
                  · rw [decide_eq_true h1] at HT
                    by_cases h2 : x2 ≤ 1073741824
                    · have HG := hide (HOJ.out.2 ⟨hup, h0, h1, h2⟩)
                      have e2 : decide (1073741824 < x2) = false := decide_eq_false (by omega)
                      clear h0 h1 h2
                      go_wp2_with (first
                        | (go_at_call 60; refine (HO.out _).mono ?_; rintro e w2 ⟨rfl, e⟩; subst e)
                        | (go_at_call 61; refine (HT.out _).mono ?_; rintro e w2 ⟨rfl, e⟩; subst e)
                        | fail)
                      go_meet
                      exact ⟨rfl, .inr ⟨rfl, HG.out⟩⟩
                    · have HQX := hide (HBAD.out (fun h => h2 (HOJ.out.1 h).2.2.2))
                      have e2 : decide (1073741824 < x2) = true := decide_eq_true (by omega)
                      clear h0 h1 h2
                      go_wp2_with (first
                        | (go_at_call 60; refine (HO.out _).mono ?_; rintro e w2 ⟨rfl, e⟩; subst e)
                        | (go_at_call 61; refine (HT.out _).mono ?_; rintro e w2 ⟨rfl, e⟩; subst e)
                        | fail)
                      go_meet
                      exact ⟨rfl, .inl ⟨rfl, HQX.out⟩⟩
                  · rw [decide_eq_false h1] at HT
                    have HQX := hide (HBAD.out (fun h => h1 (HOJ.out.1 h).2.2.1))
                    clear h0 h1
                    go_wp2_with (first
                      | (go_at_call 60; refine (HO.out _).mono ?_; rintro e w2 ⟨rfl, e⟩; subst e)
                      | (go_at_call 61; refine (HT.out _).mono ?_; rintro e w2 ⟨rfl, e⟩; subst e)
                      | fail)
                    go_meet
                    exact ⟨rfl, .inl ⟨rfl, HQX.out⟩⟩
                · rw [decide_eq_false h0] at HO
                  have HQX := hide (HBAD.out (fun h => h0 (HOJ.out.1 h).2.1))
                  clear h0
                  go_wp2_with (first
                    | (go_at_call 60; refine (HO.out _).mono ?_; rintro e w2 ⟨rfl, e⟩; subst e)
                    | (go_at_call 61; refine (HT.out _).mono ?_; rintro e w2 ⟨rfl, e⟩; subst e)
                    | fail)
                  go_meet
                  exact ⟨rfl, .inl ⟨rfl, HQX.out⟩⟩
            case rest =>
              obtain ⟨hwy, hcs⟩ := hcut
              subst hwy
              clear HO HT
              rcases hcs with ⟨rfl, hqx⟩ | ⟨rfl, hg⟩
              · have HQX := hide hqx
                clear hqx
                go_wp2_with (first
                  | (go_at_call 55; refine (qBare_any 103 _).mono ?_; rintro e w7 ⟨rfl, hb7⟩; have HB7 := hide (HBX.out.trans (hb7.mono HBX.out.size)); have HR7 : Hid (w7.heap[w.heap.size]? = some (.cells #[.int .i64 0, .bool false, .int .i64 0] 47 (0, 0))) := hide ((hb7.block _ HGLX.out).trans HRX.out); clear hb7; have r0 := box_cell HR7.out 0; have r1 := box_cell HR7.out 1; have r2 := box_cell HR7.out 2; have z0 := box_free HR7.out 0; have z1 := box_free HR7.out 1; have z2 := box_free HR7.out 2; simp only [List.getElem?_toArray, List.getElem?_cons_zero, List.getElem?_cons_succ] at r0 r1 r2)
                  | fail)
                obtain ⟨W9, hW, HB9, u0, u1, u2, -⟩ := fault_set HR7.out HB7.out 103 false 0
                rw [← hW]
                clear hW
                refine bodyPost_ret (by simp [results, Tryd.results21, go_sem, u0, u1, u2]; try rfl) rfl ?_
                refine ⟨HB9, _, rfl, .inl ⟨by rw [HQX.out]; simp, by rw [HQX.out]; rfl⟩⟩
              · have HG := hide hg
                clear hg
                go_wp2_with fail
                go_roundw
                case rel =>
                  refine ⟨j + 1, by omega, by go_num, fun i hi => ?_, q2, HQX2.out⟩
                  by_cases e : i = j
                  · subst e; exact HG.out
                  · exact HOK.out i (by omega)
                case measure => simp [intOf]; omega
        · obtain rfl : j = n2 := by omega
          have dj : decide ((j : Int) < j) = false := decide_eq_false (by omega)
          have HALL : Hid ((Ix.riseB ms && Ix.rightB ms) = true) := hide (HJA.out.2 HOK.out)
          have HQ7 : Hid (Ix.fault l = if ev < 1 then (105, none) else (0, none)) := hide (by rw [HQ6.out, HALL.out]; simp)
          have HRT : Hid (∀ m ∈ ms, m.pos ≤ 1073741824) := hide (fun m hm => by
            obtain ⟨i, hi, rfl⟩ := List.getElem_of_mem hm
            have h := (HOK.out i (by have := HN2.out; omega)).2.2.2
            rwa [show ms.getD i Ix.z0 = ms[i] from by simp [List.getD, hi]] at h)
          have HBX : Hid (Below w.heap.size w wr) := hide (by rw [hq]; exact below_drewN HB5.out _)
          have HRX : Hid (wr.heap[w.heap.size]? = some (.cells #[.int .i64 0, .bool false, .int .i64 0] 47 (0, 0))) := hide (by rw [hq]; exact HRES.out)
          have HGLX : Hid (w.heap.size < wr.heap.size) := hide (by rw [hq]; exact HGL5.out)
          have HMA6 : Hid (MarksAt wr A5 c5 ms) := hide (by rw [hq]; exact HMA5.out.below (below_drewN (Below.refl _ _) q))
          clear HQ6 HALL HJA HOK hq HQQ HC HMA5 HB5 HRES HGL5
          by_cases hev : ev < 1
          · have HNL := hide (qNew_low (ev : Int) wr (by omega))
            have HQX : Hid (Ix.fault l = (105, none)) := hide (by rw [HQ7.out, if_pos hev])
            go_wp2_with (first
              | (go_at_call 62; refine HNL.out.mono ?_; rintro e w6 ⟨rfl, hb6⟩; have HB6 := hide (HBX.out.trans (hb6.mono HBX.out.size)); have HR6 := hide ((hb6.block _ HGLX.out).trans HRX.out); have HGL6 := hide (Nat.lt_of_lt_of_le HGLX.out hb6.size); clear hb6)
              | (go_at_call 55; refine (qBare_any 105 _).mono ?_; rintro e w7 ⟨rfl, hb7⟩; have HB7 := hide (HB6.out.trans (hb7.mono HB6.out.size)); have HR7 : Hid (w7.heap[w.heap.size]? = some (.cells #[.int .i64 0, .bool false, .int .i64 0] 47 (0, 0))) := hide ((hb7.block _ HGL6.out).trans HR6.out); clear hb7; have r0 := box_cell HR7.out 0; have r1 := box_cell HR7.out 1; have r2 := box_cell HR7.out 2; have z0 := box_free HR7.out 0; have z1 := box_free HR7.out 1; have z2 := box_free HR7.out 2; simp only [List.getElem?_toArray, List.getElem?_cons_zero, List.getElem?_cons_succ] at r0 r1 r2)
              | fail)
            obtain ⟨W9, hW, HB9, u0, u1, u2, -⟩ := fault_set HR7.out HB7.out 105 false 0
            rw [← hW]
            clear hW
            refine bodyPost_ret (by simp [results, Tryd.results21, go_sem, u0, u1, u2]; try rfl) rfl ?_
            refine ⟨HB9, _, rfl, .inl ⟨by rw [HQX.out]; simp, by rw [HQX.out]; rfl⟩⟩
          · have HNW := hide (qNew_any (ev : Int) wr (by omega) (by omega))
            have HQX : Hid (Ix.fault l = (0, none)) := hide (by rw [HQ7.out, if_neg hev])
            have hba : Below wr.heap.size wr (wr.alloc (.cells #[.int .i64 (ev : Int), .slice A5 ms.length c5, .int .i64 (-1), .int .i64 (-1), .int .i64 0, .bool false] 56)) := balloc (Below.refl _ _) _
            have hbx := heap_alloc_new wr (.cells #[.int .i64 (ev : Int), .slice A5 ms.length c5, .int .i64 (-1), .int .i64 (-1), .int .i64 0, .bool false] 56)
            have HB7 := hide (HBX.out.trans (hba.mono HBX.out.size))
            have HR7 : Hid ((wr.alloc (.cells #[.int .i64 (ev : Int), .slice A5 ms.length c5, .int .i64 (-1), .int .i64 (-1), .int .i64 0, .bool false] 56)).heap[w.heap.size]? = some (.cells #[.int .i64 0, .bool false, .int .i64 0] 47 (0, 0))) := hide ((hba.block _ HGLX.out).trans HRX.out)
            have HCT := hide (qCut_any wr.heap.size ev A5 c5 ms _ hbx (HMA6.out.below hba) HRT.out (by have := HN2.out; omega))
            have hn3 := HN2.out
            clear hba hbx HMA6 HRT
            subst hn3
            go_wp2_with (first
              | (go_at_call 62; refine HNW.out.mono ?_; rintro e w6 ⟨rfl, rfl⟩)
              | (go_at_call 63; refine HCT.out.mono ?_; rintro e w8 ⟨rfl, v8, hc8, ho8, hg8⟩; have HO8 := hide ho8; have HC8 := hide hc8; have HB8 := hide (HB7.out.grown hg8 (by have := HBX.out.size; simp; omega) (fun k hk => by injection hk with hk; have := HBX.out.size; omega)); have HR8 := hide ((hg8.block w.heap.size (by have := HGLX.out; simp; omega) (fun e => by injection e with e; have := HGLX.out; omega)).trans HR7.out); clear ho8 hc8 hg8)
              | (go_at_call 64; refine (qNone_any _).mono ?_; rintro e w9 ⟨rfl, hb9⟩; have HB9 := hide (HB8.out.trans (hb9.mono HB8.out.size)); have HR9 : Hid (w9.heap[w.heap.size]? = some (.cells #[.int .i64 0, .bool false, .int .i64 0] 47 (0, 0))) := hide ((hb9.block _ (Array.getElem?_eq_some_iff.1 HR8.out).1).trans HR8.out); have HO9 := hide (ownsRow_same HO8.out fun g hg => hb9.block g (HO8.out.lt g hg).2); have HC9 := hide ((hb9.cell (p := ⟨wr.heap.size, 1, none⟩) (World.block_lt_of_cell? _ _ HC8.out)).trans HC8.out); clear hb9; have r0 := box_cell HR9.out 0; have r1 := box_cell HR9.out 1; have r2 := box_cell HR9.out 2; have z0 := box_free HR9.out 0; have z1 := box_free HR9.out 1; have z2 := box_free HR9.out 2; simp only [List.getElem?_toArray, List.getElem?_cons_zero, List.getElem?_cons_succ] at r0 r1 r2)
              | fail)
            obtain ⟨W9, hW, HB10, u0, u1, u2, hoth⟩ := fault_set HR9.out HB9.out 0 false 0
            rw [← hW]
            clear hW
            refine bodyPost_ret (by simp [results, Tryd.results21, go_sem, u0, u1, u2]; try rfl) rfl ?_
            have hsz := HGLX.out
            refine ⟨HB10, _, rfl, .inr ⟨HQX.out, wr.heap.size, v8, rfl, ?_, ?_⟩⟩
            · have hh := hoth wr.heap.size (by omega)
              have hc9 := HC9.out
              simp only [World.cell?, hh] at hc9 ⊢
              exact hc9
            · rw [HRD.out, HT2.out]
              have ho9 := ownsRow_same HO9.out fun g hg => hoth g (by have := (HO9.out.lt g hg).1; simp at this; omega)
              exact ownsRow_mono ho9 (by simp; omega)
    · have HQ6 : Hid (Ix.fault l = (s6.code, s6.pos)) := hide (by rw [HQ.out, HT2.out, HS6.out]; exact over_bad (by rw [← HS6.out]; exact ho))
      have HF2 := hide (fine_any w5 A cap w1.heap.size l s6 false HQ5.out.rd (by simp [ho]))
      have c2 := HQ5.out.rd.c2
      have c3 := HQ5.out.rd.c3
      have c4 := HQ5.out.rd.c4
      have r0 : w5.cell? ⟨w.heap.size, 0, none⟩ = some (.int .i64 0) := box_cell HQ5.out.res 0
      have r1 : w5.cell? ⟨w.heap.size, 1, none⟩ = some (.bool false) := box_cell HQ5.out.res 1
      have r2 : w5.cell? ⟨w.heap.size, 2, none⟩ = some (.int .i64 0) := box_cell HQ5.out.res 2
      have t0 := World.cell?_setCell_same w5 ⟨w.heap.size, 0, none⟩ (.int .i64 (s6.code : Int)) r0
      have t1 := World.cell?_setCell_same (w5.setCell ⟨w.heap.size, 0, none⟩ (.int .i64 (s6.code : Int))) ⟨w.heap.size, 1, none⟩ (.bool s6.pos.isSome) ((World.cell?_setCell_other _ ⟨w.heap.size, 0, none⟩ ⟨w.heap.size, 1, none⟩ _ (by simp)).trans r1)
      have t2 := World.cell?_setCell_same ((w5.setCell ⟨w.heap.size, 0, none⟩ (.int .i64 (s6.code : Int))).setCell ⟨w.heap.size, 1, none⟩ (.bool s6.pos.isSome)) ⟨w.heap.size, 2, none⟩ (.int .i64 ((s6.pos.getD 0 : Nat) : Int)) ((World.cell?_setCell_other _ ⟨w.heap.size, 1, none⟩ ⟨w.heap.size, 2, none⟩ _ (by simp)).trans ((World.cell?_setCell_other _ ⟨w.heap.size, 0, none⟩ ⟨w.heap.size, 2, none⟩ _ (by simp)).trans r2))
      have q0 : w5.frozen? ⟨w.heap.size, 0, none⟩ = false := box_free HQ5.out.res 0
      have q1 : w5.frozen? ⟨w.heap.size, 1, none⟩ = false := box_free HQ5.out.res 1
      have q2 : w5.frozen? ⟨w.heap.size, 2, none⟩ = false := box_free HQ5.out.res 2
      go_upto_region 19 with (first
        | (go_at_call 57; refine HF2.out.mono ?_; rintro e w9 ⟨rfl, rfl⟩)
        | fail)
      go_region
      all_goals
        go_wp2_with fail
        obtain ⟨W9, hW, HB9, u0, u1, u2⟩ : ∃ W9, W9 = (((w5.setCell ⟨w.heap.size, 0, none⟩ (.int .i64 (s6.code : Int))).setCell ⟨w.heap.size, 1, none⟩ (.bool s6.pos.isSome)).setCell ⟨w.heap.size, 2, none⟩ (.int .i64 ((s6.pos.getD 0 : Nat) : Int))).drew ∧ Hid (Below w.heap.size w W9) ∧ W9.cell? ⟨w.heap.size, 0, none⟩ = some (.int .i64 (s6.code : Int)) ∧ W9.cell? ⟨w.heap.size, 1, none⟩ = some (.bool s6.pos.isSome) ∧ W9.cell? ⟨w.heap.size, 2, none⟩ = some (.int .i64 ((s6.pos.getD 0 : Nat) : Int)) := ⟨_, rfl, hide (bset (bset (bset HQ5.out.bel 0 _) 1 _) 2 _).drew, (World.cell?_setCell_other _ ⟨w.heap.size, 2, none⟩ ⟨w.heap.size, 0, none⟩ _ (by simp)).trans ((World.cell?_setCell_other _ ⟨w.heap.size, 1, none⟩ ⟨w.heap.size, 0, none⟩ _ (by simp)).trans t0), (World.cell?_setCell_other _ ⟨w.heap.size, 2, none⟩ ⟨w.heap.size, 1, none⟩ _ (by simp)).trans t1, t2⟩
        rw [← hW]
        clear hW t0 t1 t2
        refine bodyPost_ret (by simp [results, Tryd.results21, go_sem, u0, u1, u2]; try rfl) rfl ?_
        refine ⟨HB9.out, _, rfl, .inl ⟨by rw [HQ6.out]; exact ho, by rw [HQ6.out]⟩⟩
end Go.Proofs.YtoaioijgmbhhnaaDoor
