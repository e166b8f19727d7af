/-
  Package index: Bytes.
  SegReads, plainly: the edges' times, the index that is built beside the segment.
-/
import Derived.Test.YtcmgppacipdnaaaGreatDoorQRfV
import Derived.Test.YtcmgppacipdnaaaGreatDoorQIxP
import Derived.Test.YtcmgppacipdnaaaGreatDoorQVint
import Derived.Deep.LoopGhost
import Derived.Test.YtcmgppacipdnaaaGreatDoorQHtS
namespace Go.Proofs.YtcmgppacipdnaaaGreatDoor
open Go.RowKit

namespace Ix
theorem steps_at : ∀ (l : List Mark) (a : Mark) (k : Nat), steps a l → k < l.length → okStep (lastFrom a (l.take k)) (l.getD k z0)
  | m :: l, a, 0, h, _ => h.1
  | m :: l, a, k + 1, h, hk => steps_at l m k h.2 (by simpa using hk)
theorem take_snoc (l : List Mark) (k : Nat) (hk : k < l.length) : l.take (k + 1) = l.take k ++ [l.getD k z0] := by
  rw [List.take_succ_eq_append_getElem hk]; simp [List.getD, hk]
theorem stepB_len (a m : Mark) (h : okStep a m) : (stepB a m).length ≤ 30 := by
  obtain ⟨h1, h2, h3⟩ := h
  have a1 := Vi.size_le10 (n := (m.off - a.off).toNat) (by omega)
  have a2 := Vi.size_le10 (n := Vi.zz (m.time - a.time)) (Vi.zz_lt _ (by omega) (by omega))
  have a3 := Vi.size_le10 (n := (m.pos - a.pos).toNat) (by omega)
  unfold Vi.size at a1 a2 a3
  simp only [stepB, List.length_append]
  omega
end Ix

/-- What Bytes has laid so far: its row, and the mark ahead in a block of its own. -/
structure BySt (w0 w : World) (g : Nat) (v : Value) (l : List UInt8) (a : Ix.Mark) : Prop where
  own : Own w w0.heap.size v l
  bel : Below w0.heap.size w0 w
  box : w.heap[g]? = some (.cells #[.int .i64 a.off, .int .i64 a.time, .int .i64 a.pos] 187 (0, 0))
  lo : w0.heap.size ≤ g
theorem BySt.ne {w0 w : World} {g : Nat} {v : Value} {l : List UInt8} {a : Ix.Mark} (h : BySt w0 w g v l a) : v.ownBlock ≠ some g := fun e => by
  rcases h.own.2 with ⟨e1, _⟩ | ⟨g', cap, cur, e1, _, hh, _⟩
  · rw [e1] at e; cases e
  · rw [e1] at e
    have : g' = g := by simpa [Value.ownBlock] using e
    rw [this] at hh
    exact types_ne hh h.box (by decide) rfl
theorem BySt.glt {w0 w : World} {g : Nat} {v : Value} {l : List UInt8} {a : Ix.Mark} (h : BySt w0 w g v l a) : g < w.heap.size := (Array.getElem?_eq_some_iff.1 h.box).1
theorem BySt.below {w0 w w' : World} {g : Nat} {v : Value} {l : List UInt8} {a : Ix.Mark} (h : BySt w0 w g v l a) (hb : Below w.heap.size w w') : BySt w0 w' g v l a :=
  ⟨h.own.below hb (Nat.le_refl _), h.bel.trans (hb.mono h.bel.size), (hb.block g h.glt).trans h.box, h.lo⟩
theorem BySt.app {w0 w w' : World} {g : Nat} {v v' : Value} {l l' : List UInt8} {a : Ix.Mark} (h : BySt w0 w g v l a) (ho : Own w' w0.heap.size v' l') (hg : w.grownBy w' v.ownBlock) : BySt w0 w' g v' l' a :=
  ⟨ho, h.bel.grown hg h.bel.size fun k hk => (h.own.lt k hk).1, (hg.block g h.glt fun e => h.ne e.symm).trans h.box, h.lo⟩
theorem BySt.cells {w0 w : World} {g : Nat} {v : Value} {l : List UInt8} {a : Ix.Mark} (h : BySt w0 w g v l a) : (w.cell? ⟨g, 0, none⟩ = some (.int .i64 a.off) ∧ w.cell? ⟨g, 1, none⟩ = some (.int .i64 a.time) ∧ w.cell? ⟨g, 2, none⟩ = some (.int .i64 a.pos)) ∧ (w.frozen? ⟨g, 0, none⟩ = false ∧ w.frozen? ⟨g, 1, none⟩ = false ∧ w.frozen? ⟨g, 2, none⟩ = false) :=
  ⟨⟨box_cell h.box 0, box_cell h.box 1, box_cell h.box 2⟩, ⟨box_free h.box 0, box_free h.box 1, box_free h.box 2⟩⟩
theorem BySt.set {w0 w : World} {g : Nat} {v : Value} {l : List UInt8} {a : Ix.Mark} (h : BySt w0 w g v l a) (m : Ix.Mark) : BySt w0 (((w.setCell ⟨g, 0, none⟩ (.int .i64 m.off)).setCell ⟨g, 1, none⟩ (.int .i64 m.time)).setCell ⟨g, 2, none⟩ (.int .i64 m.pos)) g v l m := by
  have h1 := heap_setCell_same w g 0 _ _ (.int .i64 m.off) h.box
  have h2 := heap_setCell_same (w.setCell ⟨g, 0, none⟩ (.int .i64 m.off)) g 1 _ _ (.int .i64 m.time) h1
  have h3 := heap_setCell_same ((w.setCell ⟨g, 0, none⟩ (.int .i64 m.off)).setCell ⟨g, 1, none⟩ (.int .i64 m.time)) g 2 _ _ (.int .i64 m.pos) h2
  have hne : ∀ k, k ≠ g → (((w.setCell ⟨g, 0, none⟩ (.int .i64 m.off)).setCell ⟨g, 1, none⟩ (.int .i64 m.time)).setCell ⟨g, 2, none⟩ (.int .i64 m.pos)).heap[k]? = w.heap[k]? := fun k hk =>
    (Below.heap_setCell _ _ _ _ hk).trans ((Below.heap_setCell _ _ _ _ hk).trans (Below.heap_setCell _ _ _ _ hk))
  refine ⟨ownsRow_same h.own fun k hk => hne k fun e => h.ne (by rw [hk, e]), ⟨h.bel.os, h.bel.tape, h.bel.output, by simpa using h.bel.size, fun k hk => (hne k (by have := h.lo; omega)).trans (h.bel.block k hk)⟩, h3, h.lo⟩
theorem BySt.other {w0 w w' : World} {g g' : Nat} {v : Value} {l : List UInt8} {a : Ix.Mark} {cs : Array Value} (h : BySt w0 w g v l a) (hb : w.heap[g']? = some (.cells cs 187 (0, 0))) (hg : w.grownBy w' v.ownBlock) : w'.heap[g']? = some (.cells cs 187 (0, 0)) :=
  (hg.block g' (Array.getElem?_eq_some_iff.1 hb).1 fun e => by
    rcases h.own.2 with ⟨e1, _⟩ | ⟨g2, cap, cur, e1, _, hh, _⟩
    · rw [e1] at e; cases e
    · rw [e1] at e
      have e2 : g' = g2 := by simpa [Value.ownBlock] using e
      rw [← e2] at hh
      exact types_ne hh hb (by decide) rfl).trans hb
theorem ByNew {w0 w : World} {v : Value} {l : List UInt8} (ho : Own w w0.heap.size v l) (hb : Below w0.heap.size w0 w) : BySt w0 (w.alloc (.cells #[.int .i64 0, .int .i64 0, .int .i64 0] 187)) w.heap.size v l Ix.z0 :=
  ⟨ho.alloc _, hb.alloc hb.size _, heap_alloc_new _ _, hb.size⟩

theorem mk_slice4 {w : World} {X : Nat} {mv av : Value} {s : Ix.St} {S : Nat → Prop} (h : IxL w X mv av s S) : ∃ A n c, mv = .slice A n c ∧ n = s.marks.length ∧ n ≤ c ∧ ∀ k, k < n → ∃ g, A = some ⟨g, 0, none⟩ ∧ g < w.heap.size ∧ w.cell? ⟨g, k * 3, none⟩ = some (.int .i64 (s.marks.getD k Ix.z0).off) ∧ w.cell? ⟨g, k * 3 + 1, none⟩ = some (.int .i64 (s.marks.getD k Ix.z0).time) ∧ w.cell? ⟨g, k * 3 + 2, none⟩ = some (.int .i64 (s.marks.getD k Ix.z0).pos) := by
  rcases h.marks.2 with ⟨e, k0⟩ | ⟨g, cap, cur, e, _, hh, hcap, _⟩
  · exact ⟨_, _, _, e, k0.symm, Nat.le_refl _, fun k hk => by omega⟩
  · refine ⟨_, _, _, e, rfl, by omega, fun k hk => ⟨g, rfl, (Array.getElem?_eq_some_iff.1 hh).1, ?_⟩⟩
    obtain ⟨k1, k2, k3⟩ := mk_at s.marks k hk
    have hc := h.marks.cells (g := g) (by rw [e]; rfl)
    have eg : s.marks.getD k Ix.z0 = s.marks[k] := by simp [List.getD, hk]
    rw [eg]
    refine ⟨?_, ?_, ?_⟩
    · have := hc _ _ k1; rwa [Addr.add_lit, Nat.zero_add] at this
    · have := hc _ _ k2; rwa [Addr.add_lit, Nat.zero_add] at this
    · have := hc _ _ k3; rwa [Addr.add_lit, Nat.zero_add] at this

set_option maxRecDepth 100000 in
set_option maxHeartbeats 2000000 in
theorem ixBytes_any (X : Nat) (s : Ix.St) (S : Nat → Prop) (w : World) (h : IxAt w X s S) (he : 0 ≤ s.every ∧ s.every ≤ 1048576) (hn : s.marks.length ≤ 4096) (hst : Ix.steps Ix.z0 s.marks) (ht : Tabs w) (h4 : 4 ≤ w.heap.size) :
    Calls Tryz.prog 90 #[.pointer (some ⟨X, 0, none⟩)] w fun e w' => ∃ v, e = .returned v ∧ Own w' w.heap.size v (Ix.bytes s) ∧ Below w.heap.size w w' := by
  obtain ⟨mv, av, h⟩ := h
  have c0 : w.cell? ⟨X, 0, none⟩ = some (.int .i64 s.every) := box_cell h.box 0
  have c1 : w.cell? ⟨X, 1, none⟩ = some mv := box_cell h.box 1
  have hX := (Array.getElem?_eq_some_iff.1 h.box).1
  obtain ⟨A, n, c, rfl, hl, hnc, hcm⟩ := mk_slice4 h
  have HBODY : Hid (Ix.body s = (Vi.put s.every.toNat ++ Vi.put s.marks.length) ++ Ix.marksB Ix.z0 s.marks) := hide (by unfold Ix.body; rw [List.append_assoc])
  have HSEAL : Hid (Ix.bytes s = Ix.body s ++ Crc.little (Crc.sum (Ix.body s))) := hide rfl
  obtain ⟨ev, hev⟩ := Int.eq_ofNat_of_zero_le he.1
  rw [hev] at c0 HBODY
  rw [Int.toNat_natCast] at HBODY
  have hev1 : ev ≤ 1048576 := by omega
  have hn1 : n ≤ 4096 := by omega
  rw [← hl] at HBODY
  obtain ⟨ms, hms⟩ : ∃ ms, ms = s.marks := ⟨_, rfl⟩
  rw [← hms] at HBODY hl hcm hst
  have HST := hide hst
  have HL := hide hl
  have HC := hide hcm
  have HT := hide ht
  have HP0 := hide (put_nil ev w (by omega))
  have hwe : IntKind.u64.wrap (ev : Int) = (ev : Int) := by rw [IntKind.wrap_u64]; omega
  have hwn : IntKind.u64.wrap (n : Int) = (n : Int) := by rw [IntKind.wrap_u64]; omega
  clear h hev he hn hms hst hl hcm ht
  go_enter Tryz.func90, Tryz.ntmps90
  go_wp2_with fail
  refine HP0.out.mono ?_
  rintro e w1 ⟨A1, k1, rfl, ho1, -, hb1⟩
  have HO1 := hide ho1
  have HB1 := hide hb1
  have d1 := (hb1.cell (p := ⟨X, 1, none⟩) hX).trans c1
  have HP1 := hide (put_nil n w1 (by omega))
  clear ho1 hb1 HP0 c0
  go_wp2_with fail
  refine HP1.out.mono ?_
  rintro e w2 ⟨A2, k2, rfl, -, ha2, hb2⟩
  have HO2 := hide (HO1.out.below hb2 (Nat.le_refl _))
  have HB2 := hide (HB1.out.trans (hb2.mono HB1.out.size))
  have HA2 := hide ha2.reads
  have hz2 : w.heap.size ≤ w2.heap.size := HB2.out.size
  have e1 := (hb2.cell (p := ⟨X, 1, none⟩) (Nat.lt_of_lt_of_le hX HB1.out.size)).trans d1
  have p0 := Vi.size_le10 (n := ev) (by omega)
  have p1 := Vi.size_le10 (n := n) (by omega)
  have q0 : (Vi.put ev).length = Vi.size ev := rfl
  have q1 : (Vi.put n).length = Vi.size n := rfl
  clear ha2 hb2 HP1 HO1 HB1 d1
  generalize Vi.put ev = pe at *
  generalize Vi.put n = pn at *
  generalize Vi.size ev = se at *
  generalize Vi.size n = sn at *
  go_upto_region 3 with (first
    | (at_builtin; refine wpList_app (w := w2) rfl (.tmp 13) (.tmp 20) rfl w.heap.size _ pe pn rfl HO2.out A2 sn k2 rfl q1 HA2.out (by omega) (by omega) ?_; intro v3 w3 hown3 hg3 hv3)
    | fail)
  have HB3 := hide (HB2.out.grown hg3 hz2 fun k hk => (HO2.out.lt k hk).1)
  have f1 : w3.cell? ⟨X, 1, none⟩ = some (.slice A n c) := by
    have hbk := hg3.block X (Nat.lt_of_lt_of_le hX HB2.out.size) (fun e => by have := (HO2.out.lt X e.symm).1; omega)
    simpa [World.cell?, hbk] using e1
  have HY3 := hide (ByNew hown3 HB3.out)
  have hpl : (pe ++ pn).length ≤ 20 := by rw [List.length_append]; omega
  have hz3 : w.heap.size ≤ w3.heap.size := HB3.out.size
  have hX3 : X < w3.heap.size := by omega
  clear hown3 hg3 hv3 HO2 HB2 HA2 e1 HB3
  obtain ⟨pre, hpre⟩ : ∃ pre, pre = pe ++ pn := ⟨_, rfl⟩
  rw [← hpre] at HY3 HBODY hpl
  clear hpre
  go_upto_region 4 with fail
  obtain ⟨g4, hg4⟩ : ∃ g4, g4 = w3.heap.size := ⟨_, rfl⟩
  rw [← hg4] at HY3 ⊢
  have f2 : (w3.alloc (.cells #[.int .i64 0, .int .i64 0, .int .i64 0] 187)).cell? ⟨X, 1, none⟩ = some (.slice A n c) := ((balloc (Below.refl w3.heap.size w3) _).cell (p := ⟨X, 1, none⟩) hX3).trans f1
  generalize w3.alloc (.cells #[.int .i64 0, .int .i64 0, .int .i64 0] 187) = w4 at *
  clear f1 hg4
  go_wp2_with fail
  go_loopw [3, 27] (fun v iv wr => ∃ k : Nat, k ≤ n ∧ iv = .int .i64 k ∧ BySt w wr g4 v (pre ++ Ix.marksB Ix.z0 (ms.take k)) (Ix.lastFrom Ix.z0 (ms.take k)) ∧ (pre ++ Ix.marksB Ix.z0 (ms.take k)).length ≤ 20 + 30 * k) (fun _ iv _ => n - (intOf iv).toNat)
  case atStart => exact ⟨0, Nat.zero_le _, rfl, by simpa [Ix.marksB, Ix.lastFrom] using HY3.out, by simpa [Ix.marksB] using hpl⟩
  case round =>
    obtain ⟨k, hk, rfl, hy, hlen⟩ := hrel
    by_cases hkn : k < n
    · obtain ⟨g, rfl, hg, k1, k2, k3⟩ := HC.out k hkn
      have m1 := (hy.bel.cell (p := ⟨g, k * 3, none⟩) hg).trans k1
      have m2 := (hy.bel.cell (p := ⟨g, k * 3 + 1, none⟩) hg).trans k2
      have m3 := (hy.bel.cell (p := ⟨g, k * 3 + 2, none⟩) hg).trans k3
      have hstep := Ix.steps_at ms Ix.z0 k HST.out (by have := HL.out; omega)
      have htk := Ix.take_snoc ms k (by have := HL.out; omega)
      have hsl := Ix.stepB_len _ _ hstep
      have hnext : pre ++ Ix.marksB Ix.z0 (ms.take (k + 1)) = (pre ++ Ix.marksB Ix.z0 (ms.take k)) ++ Ix.stepB (Ix.lastFrom Ix.z0 (ms.take k)) (ms.getD k Ix.z0) := by
        rw [htk, Ix.marksB_snoc, List.append_assoc]
      have hlast : Ix.lastFrom Ix.z0 (ms.take (k + 1)) = ms.getD k Ix.z0 := by rw [htk, Ix.lastFrom_snoc]
      obtain ⟨a, ha⟩ : ∃ a, a = Ix.lastFrom Ix.z0 (ms.take k) := ⟨_, rfl⟩
      obtain ⟨m, hm⟩ : ∃ m, m = ms.getD k Ix.z0 := ⟨_, rfl⟩
      obtain ⟨l, hl⟩ : ∃ l, l = pre ++ Ix.marksB Ix.z0 (ms.take k) := ⟨_, rfl⟩
      rw [← ha, ← hm] at hstep hsl
      rw [← ha, ← hm, ← hl] at hnext
      rw [← hm] at m1 m2 m3 hlast
      rw [← ha, ← hl] at hy
      rw [← hl] at hlen
      have HNX := hide hnext
      have HLS := hide hlast
      clear ha hm hl hnext hlast htk k1 k2 k3
      obtain ⟨ao, at_, ap⟩ := a
      obtain ⟨mo, mt, mp⟩ := m
      obtain ⟨⟨s1, s2⟩, ⟨s3, s4⟩, ⟨s5, s6⟩⟩ := hstep
      simp only at s1 s2 s3 s4 s5 s6 m1 m2 m3
      obtain ⟨du, hdu⟩ := Int.eq_ofNat_of_zero_le s1
      obtain ⟨dp, hdp⟩ := Int.eq_ofNat_of_zero_le s5
      obtain ⟨dt, hdt⟩ : ∃ dt, dt = mt - at_ := ⟨_, rfl⟩
      have hw1 : IntKind.i64.wrap (mo - ao) = (du : Int) := by rw [hdu, IntKind.wrap_i64]; omega
      have hw2 : IntKind.u64.wrap (du : Int) = (du : Int) := by rw [IntKind.wrap_u64]; omega
      have hw3 : IntKind.i64.wrap (mt - at_) = dt := by rw [hdt, IntKind.wrap_i64]; omega
      have hw4 : IntKind.i64.wrap (mp - ap) = (dp : Int) := by rw [hdp, IntKind.wrap_i64]; omega
      have hw5 : IntKind.u64.wrap (dp : Int) = (dp : Int) := by rw [IntKind.wrap_u64]; omega
      have hdu2 : du < 18446744073709551616 := by omega
      have hdp2 : dp < 18446744073709551616 := by omega
      have hdt1 : -9223372036854775808 ≤ dt := by omega
      have hdt2 : dt ≤ 9223372036854775807 := by omega
      have HSB : Hid (Ix.stepB ⟨ao, at_, ap⟩ ⟨mo, mt, mp⟩ = Vi.put du ++ (Vi.put (Vi.zz dt) ++ Vi.put dp)) := hide (by
        unfold Ix.stepB; simp only; rw [hdu, hdp, hdt, Int.toNat_natCast, Int.toNat_natCast])
      have hll : l.length + 30 ≤ 1000000 := by omega
      have HLN := hide (And.intro hlen hsl)
      have z1 := Vi.size_le10 hdu2
      have z2 := Vi.size_le10 (Vi.zz_lt dt hdt1 hdt2)
      have z3 := Vi.size_le10 hdp2
      have y1 : (Vi.put du).length = Vi.size du := rfl
      have y2 : (Vi.put (Vi.zz dt)).length = Vi.size (Vi.zz dt) := rfl
      have y3 : (Vi.put dp).length = Vi.size dp := rfl
      have HY := hide hy
      clear hy hdu hdp hdt s1 s2 s3 s4 s5 s6 hlen hsl
      go_upto_region 7 with fail
      have hb6 : Below wr.heap.size wr (wr.alloc (.cells #[.int .i64 mo, .int .i64 mt, .int .i64 mp] 187)) := balloc (Below.refl _ _) _
      have b6 : (wr.alloc (.cells #[.int .i64 mo, .int .i64 mt, .int .i64 mp] 187)).heap[wr.heap.size]? = some (.cells #[.int .i64 mo, .int .i64 mt, .int .i64 mp] 187 (0, 0)) := heap_alloc_new _ _
      have HY6 := hide (HY.out.below hb6)
      clear HY hb6 m1 m2 m3
      generalize wr.alloc (.cells #[.int .i64 mo, .int .i64 mt, .int .i64 mp] 187) = w6 at *
      generalize wr.heap.size = g6 at *
      have n0 : w6.cell? ⟨g6, 0, none⟩ = some (.int .i64 mo) := box_cell b6 0
      obtain ⟨⟨q0, -, -⟩, -⟩ := HY6.out.cells
      have HB6 := hide b6
      clear b6
      go_wp2_with fail
      refine (put_nil du w6 hdu2).mono ?_
      rintro e w7 ⟨A7, c7, rfl, -, ha7, hb7⟩
      have b7 := (hb7.block g6 (Array.getElem?_eq_some_iff.1 HB6.out).1).trans HB6.out
      have HY7 := hide (HY6.out.below hb7)
      have HA7 := hide ha7.reads
      have hz7 := HY7.out.bel.size
      clear hb7 ha7 HY6 n0 q0 HB6
      generalize Vi.put du = pu at *
      generalize Vi.size du = su at *
      go_upto_region 8 with (first
        | (at_builtin; refine wpList_app (w := w7) rfl (.tmp 31) (.tmp 38) rfl w.heap.size _ l pu rfl HY7.out.own A7 su c7 rfl y1 HA7.out (by omega) (by omega) ?_; intro v8 w8 hown8 hg8 hv8)
        | fail)
      have b8 := HY7.out.other b7 hg8
      have HY8 := hide (HY7.out.app hown8 hg8)
      have hl8 : (l ++ pu).length ≤ l.length + 10 := by rw [List.length_append]; omega
      have n1 : w8.cell? ⟨g6, 1, none⟩ = some (.int .i64 mt) := box_cell b8 1
      obtain ⟨⟨-, q1, -⟩, -⟩ := HY8.out.cells
      have HB8 := hide b8
      clear hown8 hg8 hv8 HY7 HA7 b7 b8
      go_wp2_with fail
      refine (putInt_nil dt w8 hdt1 hdt2).mono ?_
      rintro e w9 ⟨A9, c9, rfl, -, ha9, hb9⟩
      have b9 := (hb9.block g6 (Array.getElem?_eq_some_iff.1 HB8.out).1).trans HB8.out
      have HY9 := hide (HY8.out.below hb9)
      have HA9 := hide ha9.reads
      have hz9 := HY9.out.bel.size
      clear hb9 ha9 HY8 n1 q1 HB8
      generalize Vi.put (Vi.zz dt) = pt at *
      generalize Vi.size (Vi.zz dt) = st at *
      go_upto_region 9 with (first
        | (at_builtin; refine wpList_app (w := w9) rfl (.tmp 40) (.tmp 46) rfl w.heap.size _ (l ++ pu) pt rfl HY9.out.own A9 st c9 rfl y2 HA9.out (by omega) (by omega) ?_; intro v10 w10 hown10 hg10 hv10)
        | fail)
      have b10 := HY9.out.other b9 hg10
      have HY10 := hide (HY9.out.app hown10 hg10)
      have hl10 : ((l ++ pu) ++ pt).length ≤ l.length + 20 := by rw [List.length_append]; omega
      have n2 : w10.cell? ⟨g6, 2, none⟩ = some (.int .i64 mp) := box_cell b10 2
      obtain ⟨⟨-, -, q2⟩, -⟩ := HY10.out.cells
      have HB10 := hide b10
      clear hown10 hg10 hv10 HY9 HA9 b9 b10
      go_wp2_with fail
      refine (put_nil dp w10 hdp2).mono ?_
      rintro e w11 ⟨A11, c11, rfl, -, ha11, hb11⟩
      have b11 := (hb11.block g6 (Array.getElem?_eq_some_iff.1 HB10.out).1).trans HB10.out
      have HY11 := hide (HY10.out.below hb11)
      have HA11 := hide ha11.reads
      have hz11 := HY11.out.bel.size
      clear hb11 ha11 HY10 n2 q2 HB10
      generalize Vi.put dp = pp at *
      generalize Vi.size dp = sp at *
      go_upto_region 10 with (first
        | (at_builtin; refine wpList_app (w := w11) rfl (.tmp 48) (.tmp 55) rfl w.heap.size _ ((l ++ pu) ++ pt) pp rfl HY11.out.own A11 sp c11 rfl y3 HA11.out (by omega) (by omega) ?_; intro v12 w12 hown12 hg12 hv12)
        | fail)
      have b12 := HY11.out.other b11 hg12
      have HY12 := hide (HY11.out.app hown12 hg12)
      have r0 : w12.cell? ⟨g6, 0, none⟩ = some (.int .i64 mo) := box_cell b12 0
      have r1 : w12.cell? ⟨g6, 1, none⟩ = some (.int .i64 mt) := box_cell b12 1
      have r2 : w12.cell? ⟨g6, 2, none⟩ = some (.int .i64 mp) := box_cell b12 2
      obtain ⟨⟨q0, q1, q2⟩, f0, f1, f2⟩ := HY12.out.cells
      have HYF := hide (HY12.out.set ⟨mo, mt, mp⟩)
      clear hown12 hg12 hv12 HY11 HA11 b11 b12
      go_wp2_with fail
      go_roundw
      case rel =>
        refine ⟨k + 1, by omega, by go_num, ?_, ?_⟩
        · rw [HNX.out, HLS.out, HSB.out, ← List.append_assoc, ← List.append_assoc]
          exact HYF.out
        · rw [HNX.out, List.length_append]
          have := HLN.out
          omega
      case measure => simp [intOf]; omega
    · obtain rfl : k = n := by omega
      have htk : ms.take k = ms := List.take_of_length_le (by have := HL.out; omega)
      rw [htk, ← HBODY.out] at hy hlen
      obtain ⟨A9, c9, rfl, ha9⟩ := hy.own.arg
      have HSL := hide (seal_any A9 c9 _ _ wr rfl (by omega) ha9.reads (HT.out.below hy.bel (Nat.le_refl _)) (by have := hy.bel.size; omega))
      have HB9 := hide hy.bel
      clear hy ha9 htk hlen
      go_wp2_with (first
        | (go_at_call 135; refine HSL.out.mono ?_; rintro e w10 ⟨v10, rfl, ho10, hb10⟩; have HO10 := hide ho10; have HB10 := hide hb10; clear ho10 hb10)
        | fail)
      go_ret
      exact ⟨_, rfl, by rw [HSEAL.out]; exact HO10.out.mono HB9.out.size, HB9.out.trans (HB10.out.mono HB9.out.size)⟩
end Go.Proofs.YtcmgppacipdnaaaGreatDoor

namespace Go.Proofs.YtcmgppacipdnaaaGreatDoor
open Go.RowKit

theorem maxT_nonneg : ∀ (rs : List Rc.Rec), (∀ r ∈ rs, 0 ≤ r.t) → 0 ≤ Rc.maxT rs
  | [], _ => Int.le_refl _
  | r :: rs, h => by
    have h0 := h r List.mem_cons_self
    have key : ∀ (l : List Rc.Rec) (m : Int), 0 ≤ m → 0 ≤ l.foldl (fun m x => max m x.t) m := by
      intro l
      induction l with
      | nil => intro m hm; exact hm
      | cons a l ih => intro m hm; exact ih _ (show 0 ≤ max m a.t by omega)
    exact key rs r.t h0
theorem Rw.go_time (zs : List Int) : ∀ (at_ : Int) (i ev : Nat), ∀ b ∈ Rw.go at_ i ev zs, 0 ≤ Rc.maxT b.recs := by
  induction zs with
  | nil => intro at_ i ev b hb; simp [Rw.go] at hb
  | cons z zs ih =>
    intro at_ i ev b hb
    rcases List.mem_cons.1 hb with rfl | hb
    · refine maxT_nonneg _ fun r hr => ?_
      obtain ⟨k, -, rfl⟩ := List.mem_map.1 hr
      show 0 ≤ 100 * (i : Int) + (k : Int)
      omega
    · exact ih _ _ _ b hb

section
variable {base every : Int} {bs : List Rc.Bat}
/-- The edge behind the first j batches: its place and time. -/
theorem eAt_time (hT : ∀ b ∈ bs, 0 ≤ Rc.maxT b.recs) : ∀ j, j ≤ bs.length → 0 ≤ (Sg.eAt (Sg.begin (Nm.seg base) base every) bs j).pos ∧ 0 ≤ (Sg.eAt (Sg.begin (Nm.seg base) base every) bs j).time ∧ ((Sg.eAt (Sg.begin (Nm.seg base) base every) bs j).pos = 0 → (Sg.eAt (Sg.begin (Nm.seg base) base every) bs j).time = 0)
  | 0, _ => ⟨Int.le_refl _, Int.le_refl _, fun _ => rfl⟩
  | j + 1, h => by
    obtain ⟨h1, h2, h3⟩ := eAt_time hT j (by omega)
    rw [Sg.eAt_succ _ _ j (by omega)]
    have hm := hT bs[j] (List.getElem_mem (by omega))
    have hp : 8 ≤ (Rc.bytes bs[j]).length := by rw [Rc.bytes_len]; omega
    refine ⟨?_, ?_, fun h => ?_⟩
    · show 0 ≤ _ + _; omega
    · show 0 ≤ (if 0 < (Sg.eAt (Sg.begin (Nm.seg base) base every) bs j).pos then max (Rc.maxT bs[j].recs) (Sg.eAt (Sg.begin (Nm.seg base) base every) bs j).time else Rc.maxT bs[j].recs)
      split <;> omega
    · have h' : (Sg.eAt (Sg.begin (Nm.seg base) base every) bs j).pos + ((Rc.bytes bs[j]).length : Int) = 0 := h
      omega
theorem eAt_next (hT : ∀ b ∈ bs, 0 ≤ Rc.maxT b.recs) (j : Nat) (hj : j < bs.length) : (Sg.eAt (Sg.begin (Nm.seg base) base every) bs (j + 1)).time = max (Sg.eAt (Sg.begin (Nm.seg base) base every) bs j).time (Rc.maxT bs[j].recs) := by
  obtain ⟨h1, h2, h3⟩ := eAt_time (base := base) (every := every) hT j (by omega)
  rw [Sg.eAt_succ _ _ j hj]
  have hm := hT bs[j] (List.getElem_mem hj)
  show (if 0 < (Sg.eAt (Sg.begin (Nm.seg base) base every) bs j).pos then max (Rc.maxT bs[j].recs) (Sg.eAt (Sg.begin (Nm.seg base) base every) bs j).time else Rc.maxT bs[j].recs) = _
  split
  · omega
  · have := h3 (by omega); omega
theorem ixs_time (hT : ∀ b ∈ bs, 0 ≤ Rc.maxT b.recs) : ∀ j, j < bs.length → (ixs every (Sg.begin (Nm.seg base) base every) bs (j + 1)).time = (Sg.eAt (Sg.begin (Nm.seg base) base every) bs (j + 1)).time
  | 0, h => by
    have h2 := (eAt_time (base := base) (every := every) hT (0 + 1) (by omega)).2.1
    show max (-1099511627776 : Int) (Sg.eAt (Sg.begin (Nm.seg base) base every) bs (0 + 1)).time = (Sg.eAt (Sg.begin (Nm.seg base) base every) bs (0 + 1)).time
    generalize (Sg.eAt (Sg.begin (Nm.seg base) base every) bs (0 + 1)).time = t at *
    omega
  | j + 1, h => by
    have h1 := ixs_time hT j (by omega)
    have h2 := eAt_next (base := base) (every := every) hT (j + 1) h
    show max (ixs every _ bs (j + 1)).time _ = _
    rw [h1]
    omega
end
theorem put_time {s : Ix.St} {t t' : Int} (h : max s.time t = max s.time t') (o p : Int) : Ix.put s o t p = Ix.put s o t' p := by
  unfold Ix.put; rw [h]
section
variable {d : Dk.St} {s : Sg.St} {room used base every : Int} {names : Dk.Dir} {x : Nat} {bs : List Rc.Bat}
/-- The index that is built beside takes each batch in. -/
theorem Mz.ixAdd (h : Mz d s room used names base every x bs) (ho : Sg.Ok s) (hT : ∀ b ∈ bs, 0 ≤ Rc.maxT b.recs) (hl : (bs.flatMap Rc.bytes).length ≤ 1000000) (j : Nat) (hj : j < bs.length) (L : Nat) (hL : 1 ≤ L) :
    Ix.good (ixs every (Sg.begin (Nm.seg base) base every) bs j) bs[j].base (Rc.maxT bs[j].recs) (((bs.take j).flatMap Rc.bytes).length : Nat) L ∧
    Ix.add (ixs every (Sg.begin (Nm.seg base) base every) bs j) bs[j].base (Rc.maxT bs[j].recs) (((bs.take j).flatMap Rc.bytes).length : Nat) L = (none, ixs every (Sg.begin (Nm.seg base) base every) bs (j + 1)) := by
  have hb := h.edOff j hj
  have hp := h.edPos j (by omega)
  have e0 := eAt_ed h j (by omega)
  have e1 := eAt_ed h (j + 1) (by omega)
  have hn := eAt_next (base := base) (every := every) hT j hj
  have h1 := ho.edge j (by rw [h.len]; omega)
  have h2 := ho.edge (j + 1) (by rw [h.len]; omega)
  rw [e0, e1] at hn
  have hm := hT bs[j] (List.getElem_mem hj)
  have h4 := Sg.flat_take_le bs j bs.length (by omega)
  rw [List.take_length] at h4
  have hg : Ix.good (ixs every (Sg.begin (Nm.seg base) base every) bs j) bs[j].base (Rc.maxT bs[j].recs) (((bs.take j).flatMap Rc.bytes).length : Nat) L := by
    refine ⟨by rw [← hb]; exact h1.1, ⟨by omega, by omega⟩, by omega, ⟨by omega, by omega⟩, fun a ha => ?_⟩
    obtain ⟨i, rfl, rfl⟩ := (ixs_adds _ _ _ _).2.2 a ha
    rw [eAt_ed h i (by omega), ← hb, ← hp]
    exact ⟨h.offs i (i + 1) (by omega) (by omega), h.poss i (i + 1) (by omega) (by omega)⟩
  refine ⟨hg, ?_⟩
  unfold Ix.add
  rw [if_pos hg]
  show (none, _) = (none, Ix.put (ixs every _ bs j) _ _ _)
  rw [e0, e1, hb, hp]
  congr 1
  refine put_time ?_ _ _
  cases j with
  | zero =>
    have h0 : (Sg.ed s.edges 0).time = 0 := by rw [← e0]; rfl
    rw [hn, h0]
    congr 1
    omega
  | succ j =>
    have ht := ixs_time (base := base) (every := every) hT j (by omega)
    rw [ht, e0, hn]
    omega
theorem Mz.ixInv (h : Mz d s room used names base every x bs) (ho : Sg.Ok s) (hT : ∀ b ∈ bs, 0 ≤ Rc.maxT b.recs) (hl : (bs.flatMap Rc.bytes).length ≤ 1000000) (he : 1 ≤ every ∧ every ≤ 1048576) : ∀ j, j ≤ bs.length → Ix.Inv0 (ixs every (Sg.begin (Nm.seg base) base every) bs j)
  | 0, _ => Ix.Inv0.new every he
  | j + 1, hj => by
    have h1 := h.ixInv ho hT hl he j (by omega)
    have h2 := (h.ixAdd ho hT hl j (by omega) 1 (by omega)).2
    have h3 := h1.add bs[j].base (Rc.maxT bs[j].recs) (((bs.take j).flatMap Rc.bytes).length : Nat) (1 : Nat)
    rw [h2] at h3
    exact h3
end
theorem Mz.rawR {d : Dk.St} {s : Sg.St} {room used base every : Int} {names : Dk.Dir} {x : Nat} {bs : List Rc.Bat} (h : Mz d s room used names base every x bs) : sgRaw d s 0 (s.edges.length - 1) = (none, bs.flatMap Rc.bytes) := by
  have hl := h.len
  obtain ⟨z, hz⟩ := h
  have e := raw_adds d _ rfl rfl bs x (hz.has.find _ x hz.nm) hz.bytes 0 bs.length (Nat.zero_le _) (Nat.le_refl _)
  rw [List.drop_zero, Nat.sub_zero, List.take_length, ← hz.seg] at e
  rw [hl, Nat.add_sub_cancel]
  exact e

/-- An index behind a call that took one in. -/
structure IxPost (I : Nat) (ix : Ix.St) (S : Nat → Prop) (w W : World) : Prop where
  at_ : IxAt W I ix (Up S w W)
  chg : Chg S w W
theorem IxPost.grow {I : Nat} {ix : Ix.St} {S : Nat → Prop} {w W W' : World} (h : IxPost I ix S w W) (hb : Below W.heap.size W W') : IxPost I ix S w W' :=
  ⟨(h.at_.below hb).mono fun k hk => by rcases hk with hk | hk; exact .inl hk; exact .inr ⟨hk.1, Nat.lt_of_lt_of_le hk.2 hb.size⟩, h.chg.then (Chg.of_below hb)⟩
theorem IxPost.ahead {I : Nat} {ix : Ix.St} {S : Nat → Prop} {w w1 W : World} (hb : Below w.heap.size w w1) (h : IxPost I ix S w1 W) : IxPost I ix S w W :=
  ⟨h.at_.mono fun k hk => by
    have := hb.size
    rcases hk with hk | hk
    · exact .inl hk
    · exact .inr ⟨by omega, hk.2⟩, (Chg.of_below hb).then h.chg⟩
end Go.Proofs.YtcmgppacipdnaaaGreatDoor
