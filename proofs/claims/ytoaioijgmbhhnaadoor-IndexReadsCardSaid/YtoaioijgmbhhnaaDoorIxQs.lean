/-
  What IndexReads compares: faults, marks, bytes.
  IndexReads, walked.
-/
import Derived.Test.YtoaioijgmbhhnaaDoorIxQd
import Derived.Test.YtoaioijgmbhhnaaDoorIxBy
import Derived.Test.YtoaioijgmbhhnaaDoorRegG
import Derived.Test.YtoaioijgmbhhnaaDoorHSame
namespace Go.Proofs.YtoaioijgmbhhnaaDoor
open Go.RowKit

theorem fault_flt (w : World) (p : Nat → Addr) (hs : Sents w p) (E : Value) (q : Nat × Option Nat) (h : FltIs w p E q) :
    Calls Tryd.prog 66 #[E] w fun e w' => e = .returned (faultV (q.1 : Nat) q.2.isSome ((q.2.getD 0 : Nat) : Int)) ∧ Below w.heap.size w w' := by
  rcases h with ⟨rfl, rfl⟩ | ⟨h1, h2, rfl⟩ | ⟨x, a, h1, h2, rfl, h4, h5, h6⟩
  · exact fault_nil w
  · refine (fault_sent w p hs (q.1 - 101) (by omega)).mono fun e w' ⟨h, hb⟩ => ⟨?_, hb⟩
    rw [h, h1, show 101 + (q.1 - 101) = q.1 by omega]; rfl
  · refine (fault_at w p hs x a (q.1 - 101) (by omega) h4 h5 h6).mono fun e w' ⟨h, hb⟩ => ⟨?_, hb⟩
    rw [h, h1, show 101 + (q.1 - 101) = q.1 by omega]; rfl
theorem same_flt (w : World) (p : Nat → Addr) (hs : Sents w p) (E : Value) (q : Nat × Option Nat) (h : FltIs w p E q) :
    Calls Tryd.prog 22 #[E, faultV (q.1 : Nat) q.2.isSome ((q.2.getD 0 : Nat) : Int)] w fun e w' => e = .returned (.bool true) ∧ Below w.heap.size w w' :=
  same_of E _ _ _ w fun W hb => fault_flt W p (hs.below hb) E q (h.below hb)

/-- What ReadIndex answers. -/
def QReadIs (q : Nat × Option Nat) (ms : List Ix.Mark) (w : World) (e : Ending) (w' : World) : Prop :=
  Below w.heap.size w w' ∧ ((q.1 ≠ 0 ∧ e = .returned (.tuple #[.pointer none, faultV (q.1 : Nat) q.2.isSome ((q.2.getD 0 : Nat) : Int)])) ∨
    (q = (0, none) ∧ ∃ Z v, e = .returned (.tuple #[.pointer (some ⟨Z, 0, none⟩), faultV 0 false 0]) ∧ w'.cell? ⟨Z, 1, none⟩ = some v ∧ w'.ownsRow w.heap.size 110 3 v ms.length (ms.flatMap mkCells)))

set_option maxRecDepth 100000 in
set_option maxHeartbeats 1000000 in
theorem qRead_bad (A : Option Addr) (cap n : Nat) (c : Nat) (hc0 : c ≠ 0) (w : World) (ms : List Ix.Mark) (hO : ∀ W, Below w.heap.size w W → Calls Tryd.prog 54 #[.slice A n cap] W fun e w' => e = .returned (.tuple #[.slice none 0 0, .int .i64 c]) ∧ Below W.heap.size W w') :
    Calls Tryd.prog 21 #[.slice A n cap] w (QReadIs (c, none) ms w) := by
  have HO := hide hO
  have hne : ((c : Int) != 0) = true := by simp; exact hc0
  have hw0 : Below w.heap.size w (w.alloc (.cells #[.int .i64 0, .bool false, .int .i64 0] 47)) := balloc (Below.refl _ _) _
  have HB0 := hide hw0
  clear hO hw0
  go_enter Tryd.func21, Tryd.ntmps21
  go_wp2_with (first
    | (go_at_call 54; refine (HO.out _ HB0.out).mono ?_; rintro e w1 ⟨rfl, hb⟩; have HB1 := hide (HB0.out.trans (hb.mono HB0.out.size)); have HRS : Hid (w1.heap[w.heap.size]? = some (.cells #[.int .i64 0, .bool false, .int .i64 0] 47 (0, 0))) := hide ((hb.block w.heap.size (by simp)).trans (heap_alloc_new _ _)); clear hb)
    | (go_at_call 55; refine (qBare_any (c : Int) _).mono ?_; rintro e w7 ⟨rfl, hb7⟩; have HB7 := hide (HB1.out.trans (hb7.mono HB1.out.size)); have HR7 : Hid (w7.heap[w.heap.size]? = some (.cells #[.int .i64 0, .bool false, .int .i64 0] 47 (0, 0))) := hide ((hb7.block _ (Array.getElem?_eq_some_iff.1 HRS.out).1).trans HRS.out); clear hb7; have r0 := box_cell HR7.out 0; have r1 := box_cell HR7.out 1; have r2 := box_cell HR7.out 2; have z0 := box_free HR7.out 0; have z1 := box_free HR7.out 1; have z2 := box_free HR7.out 2; simp only [List.getElem?_toArray, List.getElem?_cons_zero, List.getElem?_cons_succ] at r0 r1 r2)
    | fail)
  obtain ⟨W9, hW, HB9, u0, u1, u2, -⟩ := fault_set HR7.out HB7.out (c : Int) false 0
  rw [← hW]
  clear hW
  refine bodyPost_ret (by simp [results, Tryd.results21, go_sem, u0, u1, u2]; try rfl) rfl ?_
  exact ⟨HB9, .inl ⟨hc0, rfl⟩⟩
/-- ReadIndex of any bytes. -/
theorem qRead_any (A : Option Addr) (cap : Nat) (b : List UInt8) (w : World) (good : Bool) (hg : good = true ↔ Crc.opens b) (hl : b.length ≤ 1000000) (ha : Arg w A cap b) :
    Calls Tryd.prog 21 #[.slice A b.length cap] w (QReadIs (Ix.fault4 good b) (Ix.read (b.take (b.length - 4))).marks w) := by
  by_cases h4 : b.length < 4
  · rw [show Ix.fault4 good b = (101, none) from if_pos h4]
    exact qRead_bad A cap b.length 101 (by decide) w _ fun W _ => (refOpen_short A cap b.length W h4).mono fun e w' ⟨h, hw⟩ => ⟨h, hw ▸ Below.refl _ _⟩
  · cases good with
    | false =>
      rw [show Ix.fault4 false b = (102, none) from by unfold Ix.fault4; rw [if_neg h4, if_pos rfl]]
      exact qRead_bad A cap b.length 102 (by decide) w _ fun W hb => (qOpen_at A cap b W false hg (by omega) hl (ha.below hb (Nat.le_refl _))).mono fun e w' ⟨hb, he⟩ => ⟨by simpa using he, hb⟩
    | true =>
      refine (qRead_good A cap b w (hg.1 rfl) (by omega) hl ha).mono fun e w' ⟨hb, q, hq, h⟩ => ⟨hb, ?_⟩
      rw [show Ix.fault4 true b = Ix.fault (b.take (b.length - 4)) from by unfold Ix.fault4; rw [if_neg h4]; simp, ← hq]
      exact h
/-- Read of any bytes. -/
theorem ixRead_any (A : Option Addr) (cap : Nat) (b : List UInt8) (w : World) (p : Nat → Addr) (good : Bool) (hg : good = true ↔ Crc.opens b) (hl : b.length ≤ 1000000) (ha : Arg w A cap b) (ht : Tabs w) (hs : SentsI w p) :
    Calls Tryd.prog 20 #[.slice A b.length cap] w (ReadIs p (Ix.fault4 good b) (Ix.read (b.take (b.length - 4))) w) := by
  by_cases hbad : b.length < 4 ∨ good = false
  · exact ixRead_bad A cap b w p good hg hl ha ht hs hbad _
  · have h1 : ¬ b.length < 4 := fun h => hbad (.inl h)
    have h2 : good = true := by cases good; exact absurd (.inr rfl) hbad; rfl
    have := ixRead_good A cap b w p (hg.1 h2) (by omega) hl ha ht hs
    rwa [show Ix.fault4 good b = Ix.fault (b.take (b.length - 4)) from by unfold Ix.fault4; rw [if_neg h1, if_neg (by rw [h2]; simp)]]
theorem opens_bytes {b : List UInt8} (h4 : 4 ≤ b.length) (ho : Crc.opens b) (hf : Ix.fault (b.take (b.length - 4)) = (0, none)) : Ix.bytes (Ix.read (b.take (b.length - 4))) = b := by
  have h := (Ix.read_canon hf).1
  unfold Ix.bytes
  rw [h]
  have e : Crc.sum (b.take (b.length - 4)) = Crc.word (b.drop (b.length - 4)) := ho
  rw [e, Crc.little_word _ (by simp; omega), List.take_append_drop]

set_option maxRecDepth 100000 in
set_option maxHeartbeats 1000000 in
/-- The statement's own 'same': two rows of the same marks. -/
theorem lsame_any (A A' : Option Addr) (c c' n : Nat) (ms : List Ix.Mark) (w : World) (hn : ms.length = n) (hb : n ≤ 1000000) (h1 : MarksAt w A c ms) (h2 : MarksAt w A' c' ms) :
    Calls Tryd.prog 23 #[.slice A n c, .slice A' n c'] w fun e w' => e = .returned (.bool true) ∧ ∃ q, w' = w.drewN q := by
  have hc := h1.le
  have hc' := h2.le
  have H1 := hide h1.at_
  have H2 := hide h2.at_
  rw [hn] at H1 H2 hc hc'
  clear h1 h2 hn
  have hnn : ((n : Int) != n) = false := by simp
  go_enter Tryd.func23, Tryd.ntmps23
  go_wp2_with fail
  go_loopw [5] (fun iv wr => ∃ j : Nat, j ≤ n ∧ iv = .int .i64 j ∧ ∃ q, wr = w.drewN q) (fun iv _ => n - (intOf iv).toNat)
  case atStart => exact ⟨0, Nat.zero_le _, rfl, 0, rfl⟩
  case round =>
    obtain ⟨j, hj, rfl, q, hq⟩ := hrel
    have HQ := hide hq
    by_cases hjn : j < n
    · obtain ⟨g, rfl, -, a0, a1, a2⟩ := H1.out j hjn
      obtain ⟨g', rfl, -, b0, b1, b2⟩ := H2.out j hjn
      replace a0 : wr.cell? ⟨g, j * 3, none⟩ = some (.int .i64 (ms.getD j Ix.z0).off) := by rw [hq]; exact a0
      replace a1 : wr.cell? ⟨g, j * 3 + 1, none⟩ = some (.int .i64 (ms.getD j Ix.z0).time) := by rw [hq]; exact a1
      replace a2 : wr.cell? ⟨g, j * 3 + 2, none⟩ = some (.int .i64 (ms.getD j Ix.z0).pos) := by rw [hq]; exact a2
      replace b0 : wr.cell? ⟨g', j * 3, none⟩ = some (.int .i64 (ms.getD j Ix.z0).off) := by rw [hq]; exact b0
      replace b1 : wr.cell? ⟨g', j * 3 + 1, none⟩ = some (.int .i64 (ms.getD j Ix.z0).time) := by rw [hq]; exact b1
      replace b2 : wr.cell? ⟨g', j * 3 + 2, none⟩ = some (.int .i64 (ms.getD j Ix.z0).pos) := by rw [hq]; exact b2
      generalize ms.getD j Ix.z0 = m at *
      obtain ⟨mo, mt, mp⟩ := m
      simp only at a0 a1 a2 b0 b1 b2
      have e0 : (mo != mo) = false := by simp
      have e1 : (mt != mt) = false := by simp
      have e2 : (mp != mp) = false := by simp
      have dj : decide ((j : Int) < n) = true := decide_eq_true (by omega)
      clear hq
      go_wp2_with fail
      go_quiet (fail)
      rename Nat => q1
      go_wp2_with fail
      go_roundw
      case rel => exact ⟨j + 1, by omega, by go_num, by rw [HQ.out, World.drewN_drewN]; exact ⟨_, rfl⟩⟩
      case measure => simp [intOf]; omega
    · obtain rfl : j = n := by omega
      have dj : decide ((j : Int) < j) = false := decide_eq_false (by omega)
      clear hq
      go_wp2_with fail
      go_ret
      exact ⟨rfl, q, HQ.out⟩
end Go.Proofs.YtoaioijgmbhhnaaDoor

namespace Go.Proofs.YtoaioijgmbhhnaaDoor
open Go.RowKit

theorem flt_zero {w : World} {p : Nat → Addr} {E : Value} {q : Nat × Option Nat} (h : FltIs w p E q) (h0 : q.1 = 0) : q = (0, none) ∧ E = .nilIface := by
  rcases h with ⟨h1, h2⟩ | ⟨_, h2, _⟩ | ⟨_, _, _, h2, _⟩
  · exact ⟨h1, h2⟩
  · omega
  · omega

theorem Ix.fault_zero {l : List UInt8} (h : (Ix.fault l).1 = 0) : Ix.fault l = (0, none) := by
  unfold Ix.fault at h ⊢
  by_cases c1 : (Ix.tail l).2.code ≠ 0
  · rw [if_pos c1] at h; exact absurd h c1
  rw [if_neg c1] at h ⊢
  by_cases c2 : (Ix.tail l).2.at_ < l.length
  · rw [if_pos c2] at h; cases h
  rw [if_neg c2] at h ⊢
  by_cases c3 : (Ix.riseB (Ix.tail l).1 && Ix.rightB (Ix.tail l).1) = false
  · rw [if_pos c3] at h; cases h
  rw [if_neg c3] at h ⊢
  by_cases c4 : (Ix.head1 l).1 < 1
  · rw [if_pos c4] at h; cases h
  rw [if_neg c4]
theorem Ix.fault4_zero {good : Bool} {b : List UInt8} (h : (Ix.fault4 good b).1 = 0) : Ix.fault4 good b = (0, none) := by
  unfold Ix.fault4 at h ⊢
  by_cases h4 : b.length < 4
  · rw [if_pos h4] at h; cases h
  rw [if_neg h4] at h ⊢
  by_cases h5 : good = false
  · rw [if_pos h5] at h; cases h
  rw [if_neg h5] at h ⊢
  exact Ix.fault_zero h
/-- Rows as they lie, whatever is made beside. -/
def heldM (ms : List Ix.Mark) : Held (fun a b : World => Below a.heap.size a b) := ⟨fun v w => ∃ A c, v = .slice A ms.length c ∧ MarksAt w A c ms, fun v w1 w2 ⟨A, c, h1, h2⟩ hg => ⟨A, c, h1, h2.below hg⟩⟩
def heldB (l : List UInt8) : Held (fun a b : World => Below a.heap.size a b) := ⟨fun v w => ∃ A c, v = .slice A l.length c ∧ Arg w A c l, fun v w1 w2 ⟨A, c, h1, h2⟩ hg => ⟨A, c, h1, h2.below hg (Nat.le_refl _)⟩⟩

set_option maxRecDepth 100000 in
set_option maxHeartbeats 4000000 in
theorem ixReads_any (w : World) (p : Nat → Addr) (hs : Sents w p) (ht : Tabs w) (hz4 : 4 ≤ w.heap.size) (A : Option Addr) (cap n : Nat) (b : List UInt8) (hn : b.length = n) (ha : Arg w A cap b) (hc1 : n ≤ cap) :
    Calls Tryd.prog 4 #[.slice A n cap] w fun e w' => e = .returned (.bool true) ∧ Below w.heap.size w w' := by
  have hs4 : Sent4 w p := hs.mono fun j hj => by omega
  have HF := hide (firstI_any w p hs4)
  by_cases h500 : 500 < n
  · have d0 : decide ((500 : Int) < n) = true := by simp; omega
    clear ha hn hs ht hs4
    go_enter Tryd.func4, Tryd.ntmps4
    go_wp2_with (first
      | (go_at_call 19; refine HF.out.mono ?_; rintro e w1 ⟨rfl, hb⟩; have HB1 := hide hb; clear hb)
      | fail)
    go_ret
    exact ⟨rfl, HB1.out⟩
  have d0 : decide ((500 : Int) < n) = false := by simp; omega
  obtain ⟨good, hg⟩ : ∃ good : Bool, good = true ↔ Crc.opens b := by
    by_cases h : Crc.opens b
    · exact ⟨true, by simp [h]⟩
    · exact ⟨false, by simp [h]⟩
  have HR := hide (fun (W : World) (hb : Below w.heap.size w W) => ixRead_any A cap b W p good hg (by omega) (ha.below hb (Nat.le_refl _)) (ht.below hb (Nat.le_refl _)) ((hs.below hb).mono fun j hj => by omega))
  have HQ := hide (fun (W : World) (hb : Below w.heap.size w W) => qRead_any A cap b W good hg (by omega) (ha.below hb (Nat.le_refl _)))
  rw [hn] at HR HQ
  have HS := hide (fun (W : World) (hb : Below w.heap.size w W) => hs.below hb)
  have HTB := hide (fun (W : World) (hb : Below w.heap.size w W) => ht.below hb (Nat.le_refl _))
  have HA := hide (fun (W : World) (hb : Below w.heap.size w W) => ha.below hb (Nat.le_refl _))
  have HN := hide hn
  by_cases hq : (Ix.fault4 good b).1 = 0
  · have HQ0 : Hid (Ix.fault4 good b = (0, none)) := hide (Ix.fault4_zero hq)
    have hgd : ¬ b.length < 4 ∧ good = true ∧ Ix.fault (b.take (b.length - 4)) = (0, none) := by
      have h := HQ0.out
      unfold Ix.fault4 at h
      by_cases h4 : b.length < 4
      · rw [if_pos h4] at h; simp at h
      · rw [if_neg h4] at h
        by_cases h5 : good = false
        · rw [if_pos h5] at h; simp at h
        · rw [if_neg h5] at h
          exact ⟨h4, by simpa using h5, h⟩
    have HBY := hide (opens_bytes (by omega) (hg.1 hgd.2.1) hgd.2.2)
    have hcan := Ix.read_canon hgd.2.2
    obtain ⟨st, hst⟩ : ∃ st, st = Ix.read (b.take (b.length - 4)) := ⟨_, rfl⟩
    rw [hn] at hst
    rw [hn, ← hst] at HBY hcan
    rw [← hst] at HR HQ
    have HCAN := hide hcan
    have HX := hide (fun (W : World) (hb : Below w.heap.size w W) => (HR.out W hb).mono (R' := fun e w' => ∃ X, e = .returned (.tuple #[.pointer (some ⟨X, 0, none⟩), .nilIface]) ∧ IxAt w' X st (fun k => W.heap.size ≤ k ∧ k < w'.heap.size) ∧ Below W.heap.size W w') fun e w' ⟨h1, E, h2, h3⟩ => by
      obtain ⟨e1, e2⟩ := flt_zero h2 hq
      subst e2
      rcases h3 with ⟨h3, _⟩ | ⟨_, X, h3, h4⟩
      · exact absurd hq h3
      · exact ⟨X, h3, h4, h1⟩)
    have HY := hide (fun (W : World) (hb : Below w.heap.size w W) => (HQ.out W hb).mono (R' := fun e w' => ∃ Z v, e = .returned (.tuple #[.pointer (some ⟨Z, 0, none⟩), faultV 0 false 0]) ∧ w'.cell? ⟨Z, 1, none⟩ = some v ∧ w'.ownsRow W.heap.size 110 3 v st.marks.length (st.marks.flatMap mkCells) ∧ Below W.heap.size W w') fun e w' ⟨h1, h2⟩ => by
      rcases h2 with ⟨h3, _⟩ | ⟨_, Z, v, h3, h4, h5⟩
      · exact absurd hq h3
      · exact ⟨Z, v, h3, h4, h5, h1⟩)
    clear HR HQ hst hcan hgd hg hq ha hs ht hs4 hn
    go_enter Tryd.func4, Tryd.ntmps4
    go_upto_region 10 with (first
      | (go_at_call 19; refine HF.out.mono ?_; rintro e w1 ⟨rfl, hb⟩; have HB1 := hide hb; clear hb)
      | (go_at_call 20; refine (HX.out _ HB1.out).mono ?_; rintro e w2 ⟨X, rfl, hi2, hb⟩; have HI2 := hide hi2; have HB2 := hide (HB1.out.trans (hb.mono HB1.out.size)); clear hb hi2)
      | (go_at_call 21; refine (HY.out _ HB2.out).mono ?_; rintro e w3 ⟨Z, v3, rfl, hc3, ho3, hb⟩; have HC3 := hide hc3; have HO3 := hide ho3; have HB3 := hide (HB2.out.trans (hb.mono HB2.out.size)); have HI3 := hide (HI2.out.below hb); clear hb hc3 ho3)
      | (go_at_call 22; refine (same_flt _ p (HS.out _ (balloc HB3.out _)) .nilIface (0, none) (.inl ⟨rfl, rfl⟩)).mono ?_; rintro e w4 ⟨rfl, hb⟩; have HB4 := hide ((balloc HB3.out _).trans (hb.mono (Nat.le_trans HB3.out.size (by simp)))); have HW4 := hide ((balloc (Below.refl w3.heap.size w3) _).trans (hb.mono (by simp))); clear hb)
      | fail)
    have hi4 := HI3.out.below HW4.out
    have ho4 := ownsRow_same HO3.out fun g hg => HW4.out.block g (HO3.out.lt g hg).2
    have hc4 := (HW4.out.cell (p := ⟨Z, 1, none⟩) (World.block_lt_of_cell? _ _ HC3.out)).trans HC3.out
    obtain ⟨A3, k3, e3, hk3, hma⟩ := qmarks_at ho4
    subst e3
    have HI4 := hide hi4
    have HMA := hide hma
    have hml : st.marks.length ≤ 4096 := HCAN.out.2.2.2.2.2
    have hZ4 := World.block_lt_of_cell? _ _ hc4
    have HMK := hide (fun (W : World) (hb : Below w4.heap.size w4 W) => marks_any X st _ W (by omega) (HI4.out.below hb))
    have HBS := hide (fun (W : World) (hb : Below w4.heap.size w4 W) => ixBytes_any X st _ W (HI4.out.below hb) (by have := HCAN.out; omega) hml (Ix.steps_z0 HCAN.out.2.2.1 HCAN.out.2.1) (HTB.out _ (HB4.out.trans (hb.mono HB4.out.size))) (by have := hb.size; have := HB4.out.size; omega))
    rw [HBY.out] at HBS
    have HLS := hide (fun (W : World) (hb : Below w4.heap.size w4 W) (A' : Option Addr) (c' : Nat) (h : MarksAt W A' c' st.marks) => lsame_any A' A3 c' k3 st.marks.length st.marks W rfl (by omega) h (HMA.out.below hb))
    have HSB := hide (fun (W : World) (hb : Below w4.heap.size w4 W) (A' : Option Addr) (c' : Nat) (h : Arg W A' c' b) => sameBytes_any A' A c' cap n n b b W HN.out HN.out (by omega) (by omega) h.reads (HA.out _ (HB4.out.trans (hb.mono HB4.out.size))).reads)
    clear hi4 ho4 hma HX HY HF HO3 HC3 HI3 HI2 HB1 HB2 HB3 HCAN HBY
    refine wp_region_guard (G := fun a b : World => Below a.heap.size a b) ⟨fun w => Below.refl _ w, fun h k => h.trans (k.mono h.size)⟩ [40, 41, 42, 43, 44, 45, 46, 47, 48, 49, 50, 51, 52, 53, 54, 55, 56, 2] (fun d => match d with
      | 40 => .is (.pointer (some ⟨Z, 0, none⟩)) | 41 => .is (.bool false) | 42 => .is (.bool false) | 43 => .is (.pointer (some ⟨X, 0, none⟩)) | 44 => heldM st.marks | 45 => .is (.pointer (some ⟨Z, 0, none⟩)) | 46 => .is (.pointer (some ⟨Z, 0, none⟩)) | 47 => .is (.pointer (some ⟨Z, 1, none⟩))
      | 48 => .is (.slice A3 st.marks.length k3) | 49 => .is (.bool true) | 50 => .is (.bool true) | 51 => .is (.pointer (some ⟨X, 0, none⟩)) | 52 => heldB b | 53 => .is (.slice A n cap) | 54 => .is (.bool true) | 55 => .is (.bool true) | 56 => .is (.bool true) | _ => .is (.bool true)) (by kernel_rfl) (by kernel_rfl) (by kernel_rfl) ?_ ?_
    · simp only [List.size_toArray, List.length_cons, List.length_nil, List.take_succ_cons, List.take_zero, StepsG]
      refine ⟨?_, ?_, ?_, ?_, ?_, ?_, ?_, ?_, ?_, ?_, ?_, ?_, ?_, ?_, ?_, ?_, ?_, ?_, trivial⟩
      all_goals
        intro ev w5 hb hev hd
        have ev4 : ev (.tmp 4) = .pointer (some ⟨X, 0, none⟩) := hev _ (by simp)
        have ev6 : ev (.tmp 6) = .pointer (some ⟨Z, 0, none⟩) := hev _ (by simp)
        have ev0 : ev (.tmp 0) = .slice A n cap := hev _ (by simp)
        have evf : ∀ f, ev (.func f) = .func (.func f) #[] #[] := fun f => hev _ (by simp)
        have evc : ∀ c, ev (.const c) = c := fun c => hev _ (by simp)
        have y1 := (hb.cell (p := ⟨Z, 1, none⟩) hZ4).trans hc4
        have HB5 := hide ((Below.refl w4.heap.size w4).drew.trans hb)
        clear hev hb
        simp [DepsG, Held.is] at hd
        try simp [OpGuard, OpRuns, execOp, go_sem, Held.is, Below.refl, *]
      · exact (HMK.out w5 HB5.out).mono fun e w'' ⟨v, he, ho, hb⟩ => ⟨v, he, hb, marks_at ho⟩
      · obtain ⟨A', c', e1, h1⟩ := hd.1
        rw [e1]
        exact (HLS.out w5 HB5.out A' c' h1).mono fun e w'' ⟨he, q, hq⟩ => ⟨he, hq ▸ below_drewN (Below.refl _ _) q⟩
      · exact (HBS.out w5 HB5.out).mono fun e w'' ⟨v, he, ho, hb⟩ => ⟨v, he, hb, ho.arg⟩
      · obtain ⟨A', c', e1, h1⟩ := hd.1
        rw [e1, HN.out]
        exact (HSB.out w5 HB5.out A' c' h1).mono fun e w'' ⟨he, q, hq⟩ => ⟨by rw [he]; simp, hq ▸ below_drewN (Below.refl _ _) q⟩
    · intro f w6 hb hf
      have e2 : f 2 = .bool true := hf 2 (by simp)
      have HB6 := hide (HB4.out.trans (((Below.refl w4.heap.size w4).drew.trans hb).mono HB4.out.size))
      clear hf hb
      simp only [puts, Act.put, List.setIfInBounds_toArray, List.set_cons_succ, List.set_cons_zero]
      rw [e2]
      clear e2
      generalize f 40 = y40
      generalize f 41 = y41
      generalize f 42 = y42
      generalize f 43 = y43
      generalize f 44 = y44
      generalize f 45 = y45
      generalize f 46 = y46
      generalize f 47 = y47
      generalize f 48 = y48
      generalize f 49 = y49
      generalize f 50 = y50
      generalize f 51 = y51
      generalize f 52 = y52
      generalize f 53 = y53
      generalize f 54 = y54
      generalize f 55 = y55
      generalize f 56 = y56
      clear f
      go_wp2_with fail
      go_ret
      exact ⟨rfl, HB6.out⟩
  · have HX := hide (fun (W : World) (hb : Below w.heap.size w W) => (HR.out W hb).mono (R' := fun e w' => ∃ E, e = .returned (.tuple #[.pointer none, E]) ∧ FltIs w' p E (Ix.fault4 good b) ∧ Below W.heap.size W w') fun e w' ⟨h1, E, h2, h3⟩ => by
      rcases h3 with ⟨_, h3⟩ | ⟨h3, _⟩
      · exact ⟨E, h3, h2, h1⟩
      · exact absurd h3 hq)
    have HY := hide (fun (W : World) (hb : Below w.heap.size w W) => (HQ.out W hb).mono (R' := fun e w' => e = .returned (.tuple #[.pointer none, faultV ((Ix.fault4 good b).1 : Nat) (Ix.fault4 good b).2.isSome (((Ix.fault4 good b).2.getD 0 : Nat) : Int)]) ∧ Below W.heap.size W w') fun e w' ⟨h1, h2⟩ => by
      rcases h2 with ⟨_, h3⟩ | ⟨h3, _⟩
      · exact ⟨h3, h1⟩
      · exact absurd (by rw [h3]) hq)
    have HSF := hide (fun (W : World) (hb : Below w.heap.size w W) E (hE : FltIs W p E (Ix.fault4 good b)) => same_flt W p (HS.out W hb) E (Ix.fault4 good b) hE)
    unfold faultV at HY HSF
    generalize ((Ix.fault4 good b).1 : Int) = c1 at *
    generalize (Ix.fault4 good b).2.isSome = c2 at *
    generalize (((Ix.fault4 good b).2.getD 0 : Nat) : Int) = c3 at *
    clear HR HQ hg hq ha hs ht hs4 hn
    go_enter Tryd.func4, Tryd.ntmps4
    go_upto_region 10 with (first
      | (go_at_call 19; refine HF.out.mono ?_; rintro e w1 ⟨rfl, hb⟩; have HB1 := hide hb; clear hb)
      | (go_at_call 20; refine (HX.out _ HB1.out).mono ?_; rintro e w2 ⟨E, rfl, hf2, hb⟩; have HF2 := hide hf2; have HB2 := hide (HB1.out.trans (hb.mono HB1.out.size)); clear hb hf2)
      | (go_at_call 21; refine (HY.out _ HB2.out).mono ?_; rintro e w3 ⟨rfl, hb⟩; have HB3 := hide (HB2.out.trans (hb.mono HB2.out.size)); have HF3 := hide (HF2.out.below hb); clear hb)
      | (go_at_call 22; refine (HSF.out _ (balloc HB3.out _) E (HF3.out.below (balloc (Below.refl _ _) _))).mono ?_; rintro e w4 ⟨rfl, hb⟩; have HB4 := hide ((balloc HB3.out _).trans (hb.mono (Nat.le_trans HB3.out.size (by simp)))); clear hb)
      | fail)
    go_quiet (fail)
    rename Nat => q1
    go_wp2_with fail
    go_ret
    exact ⟨rfl, below_drewN HB4.out q1⟩
end Go.Proofs.YtoaioijgmbhhnaaDoor
