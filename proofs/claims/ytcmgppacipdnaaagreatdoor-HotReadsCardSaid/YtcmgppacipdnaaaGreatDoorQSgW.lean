/-
  Package seg: lie, batches.
  Package seg: batches.
  Package index: When.
  A session with an index; Long.
  first() of the index's statements.
  sort.Search laid; Find.
  Package index: what Cut stands on.
  Package seg: until, before.
-/
import Derived.Test.YtcmgppacipdnaaaGreatDoorQNsC
import Derived.Test.YtcmgppacipdnaaaGreatDoorQRSame
import Derived.Test.YtcmgppacipdnaaaGreatDoorQIxP
import Derived.Test.YtcmgppacipdnaaaGreatDoorQTable
import Derived.Shelf.SlSorted.Search
import Derived.Deep.RegionWith
namespace Go.Proofs.YtcmgppacipdnaaaGreatDoor
open Go.RowKit Go.Maps Go.Sort

/-- The batches are those from edge i to edge j. -/
structure Lies (s : Sg.St) (xs : List Rc.Bat) (i j : Nat) : Prop where
  len : j = i + xs.length
  lt : j < s.edges.length
  at_ : ∀ k (h : k < xs.length), xs[k].base = (Sg.ed s.edges (i + k)).off ∧ xs[k].base + xs[k].recs.length = (Sg.ed s.edges (i + k + 1)).off

set_option maxRecDepth 100000 in
set_option maxHeartbeats 2000000 in
theorem sgLie_any (X D : Nat) (s : Sg.St) (T : Nat → Prop) (A : Option Addr) (c0 n i j : Nat) (xs : List Rc.Bat) (w : World) (h : SegAt w X D s T) (ho : Sg.Ok s) (hx : Lies s xs i j) (hn : xs.length = n) (hc0 : n ≤ c0) (hb : Bats w A xs) :
    Calls Tryz.prog 137 #[.pointer (some ⟨X, 0, none⟩), .slice A n c0, .int .i64 i, .int .i64 j] w fun e w' => e = .returned (.bool true) ∧ Below w.heap.size w w' := by
  subst hn
  obtain ⟨v, hl⟩ := h
  obtain ⟨Ae, c, rfl, he, -, -, -, c3, -⟩ := hl.cells
  have hlen := ho.len
  have hle := he.le
  have hXl := hl.lt
  have HX := hide hx
  have HE := hide he
  have HBT := hide hb
  have HOF := hide ho.off
  have hj := hx.len
  have hjl := hx.lt
  have hwd : IntKind.i64.wrap ((j : Int) - (i : Int)) = (xs.length : Int) := by rw [IntKind.wrap_i64]; omega
  have hne : ((xs.length : Int) != (xs.length : Int)) = false := by simp
  clear hl ho hx he hb hj
  obtain ⟨m, hm⟩ : ∃ m, m = s.edges.length := ⟨_, rfl⟩
  rw [← hm] at c3 hle hlen hjl
  have HM := hide hm
  clear hm
  go_enter Tryz.func137, Tryz.ntmps137
  go_wp2_with fail
  go_loopw [19] (fun iv wr => ∃ k : Nat, k ≤ xs.length ∧ iv = .int .i64 k ∧ Below w.heap.size w wr) (fun iv _ => xs.length - (intOf iv).toNat)
  case atStart => exact ⟨0, Nat.zero_le _, rfl, Below.refl _ _⟩
  case round =>
    obtain ⟨k, hk, rfl, hbw⟩ := hrel
    have HB := hide hbw
    by_cases hkn : k < xs.length
    · have dk : decide ((k : Int) < xs.length) = true := decide_eq_true (by omega)
      rcases HBT.out with e0 | ⟨b, off, rfl, hbl, hcl⟩
      · rw [e0] at hkn; simp at hkn
      obtain ⟨Ab, cb, k0, k1, k2, hib⟩ := (hcl k hkn).ex
      obtain ⟨hq1, hq2⟩ := HX.out.at_ k hkn
      have hij := HX.out.len
      have hjl2 := HX.out.lt
      obtain ⟨g, rfl, hg, e0, -, -, -⟩ := HE.out.at_ (i + k) (by omega)
      obtain ⟨g', eg, -, e1, -, -, -⟩ := HE.out.at_ (i + k + 1) (by omega)
      obtain rfl : g' = g := by injection eg with eg; injection eg with eg; exact eg.symm
      rw [← hq1] at e0
      rw [← hq2] at e1
      have hob := HOF.out _ (Sg.ed_mem (l := s.edges) (i := i + k) (by omega))
      have hob2 := HOF.out _ (Sg.ed_mem (l := s.edges) (i := i + k + 1) (by omega))
      rw [← hq1] at hob
      rw [← hq2] at hob2
      have r0 := (HB.out.cell (p := ⟨b, off + k * 3, none⟩) hbl).trans k0
      have r1 := (HB.out.cell (p := ⟨b, off + k * 3 + 1, none⟩) hbl).trans k1
      have r2 := (HB.out.cell (p := ⟨b, off + k * 3 + 2, none⟩) hbl).trans k2
      have HNX := hide (fun (W : World) => rNext_any xs[k].base xs[k].epoch xs[k].recs.length Ab cb W (by omega) (by omega))
      unfold batV at HNX
      generalize xs[k].epoch = ep at *
      generalize ho2 : xs[k].base + (xs[k].recs.length : Int) = o2 at *
      generalize xs[k].base = ba at *
      generalize xs[k].recs.length = nb at *
      obtain ⟨ik, hik⟩ : ∃ ik, ik = i + k := ⟨_, rfl⟩
      obtain ⟨ik1, hik1⟩ : ∃ ik1, ik1 = i + k + 1 := ⟨_, rfl⟩
      rw [← hik] at e0
      rw [← hik1] at e1
      have hw1 : IntKind.i64.wrap ((i : Int) + (k : Int)) = (ik : Int) := by rw [IntKind.wrap_i64]; omega
      have hw2 : IntKind.i64.wrap ((ik : Int) + 1) = (ik1 : Int) := by rw [IntKind.wrap_i64]; omega
      have hlt1 : ik < m := by have := HM.out; omega
      have hlt2 : ik1 < m := by have := HM.out; omega
      clear k0 k1 k2 hib hcl hbl eg ho2 hq1 hq2 hik hik1
      go_upto_region 6 with fail
      obtain ⟨Bx, hBx⟩ : ∃ Bx, Bx = wr.heap.size := ⟨_, rfl⟩
      have y0 : (wr.alloc (.cells #[.int .i64 ba, .int .i64 ep, .slice Ab nb cb] 36)).cell? ⟨wr.heap.size, 0, none⟩ = some (.int .i64 ba) := by rw [World.cell?_alloc_mark]; rfl
      have y1 : (wr.alloc (.cells #[.int .i64 ba, .int .i64 ep, .slice Ab nb cb] 36)).cell? ⟨wr.heap.size, 1, none⟩ = some (.int .i64 ep) := by rw [World.cell?_alloc_mark]; rfl
      have y2 : (wr.alloc (.cells #[.int .i64 ba, .int .i64 ep, .slice Ab nb cb] 36)).cell? ⟨wr.heap.size, 2, none⟩ = some (.slice Ab nb cb) := by rw [World.cell?_alloc_mark]; rfl
      have hBz : wr.heap.size < (wr.alloc (.cells #[.int .i64 ba, .int .i64 ep, .slice Ab nb cb] 36)).heap.size := by simp
      have HB1 := hide (balloc HB.out (.cells #[.int .i64 ba, .int .i64 ep, .slice Ab nb cb] 36))
      rw [← hBx] at y0 y1 y2 hBz ⊢
      generalize wr.alloc (.cells #[.int .i64 ba, .int .i64 ep, .slice Ab nb cb] 36) = W1 at *
      clear hBx r0 r1 r2
      have x3 := (HB1.out.cell (p := ⟨X, 3, none⟩) hXl).trans c3
      have z0 := (HB1.out.cell (p := ⟨g', ik * 4, none⟩) hg).trans e0
      have z1 := (HB1.out.cell (p := ⟨g', ik1 * 4, none⟩) hg).trans e1
      have hXW := Nat.lt_of_lt_of_le hXl HB1.out.size
      have hgW := Nat.lt_of_lt_of_le hg HB1.out.size
      refine wp_region_guard (G := fun a b : World => Below a.heap.size a b) ⟨fun w => Below.refl _ w, fun h k => h.trans (k.mono h.size)⟩ [24, 25, 26, 27, 28, 29, 30, 31, 32, 33, 34, 35, 36, 37, 38, 39, 40, 41, 42, 43, 44, 45, 46, 47, 48, 49, 50, 51, 52] (fun d => match d with
        | 24 => .is (.pointer (some ⟨Bx, 0, none⟩)) | 25 => .is (.int .i64 ba) | 26 => .is (.pointer (some ⟨X, 0, none⟩)) | 27 => .is (.pointer (some ⟨X, 0, none⟩)) | 28 => .is (.pointer (some ⟨X, 3, none⟩)) | 29 => .is (.slice (some ⟨g', 0, none⟩) m c) | 30 => .is (.int .i64 i) | 31 => .is (.int .i64 k) | 32 => .is (.int .i64 ik) | 33 => .is (.pointer (some ⟨g', ik * 4, none⟩)) | 34 => .is (.pointer (some ⟨g', ik * 4, none⟩)) | 35 => .is (.int .i64 ba) | 36 => .is (.bool false) | 37 => .is (.bool false) | 38 => .is (.agg #[.int .i64 ba, .int .i64 ep, .slice Ab nb cb]) | 39 => .is (.int .i64 o2) | 40 => .is (.pointer (some ⟨X, 0, none⟩)) | 41 => .is (.pointer (some ⟨X, 0, none⟩)) | 42 => .is (.pointer (some ⟨X, 3, none⟩)) | 43 => .is (.slice (some ⟨g', 0, none⟩) m c) | 44 => .is (.int .i64 i) | 45 => .is (.int .i64 k) | 46 => .is (.int .i64 ik) | 47 => .is (.int .i64 ik1) | 48 => .is (.pointer (some ⟨g', ik1 * 4, none⟩)) | 49 => .is (.pointer (some ⟨g', ik1 * 4, none⟩)) | 50 => .is (.int .i64 o2) | 51 => .is (.bool false) | _ => .is (.bool false)) (by kernel_rfl) (by kernel_rfl) (by kernel_rfl) ?_ ?_
      · simp only [StepsG]
        refine ⟨?_, ?_, ?_, ?_, ?_, ?_, ?_, ?_, ?_, ?_, ?_, ?_, ?_, ?_, ?_, ?_, ?_, ?_, ?_, ?_, ?_, ?_, ?_, ?_, ?_, ?_, ?_, ?_, ?_, trivial⟩
        all_goals
          intro ev w6 hb hev hd
          have ev0 : ev (.tmp 0) = .pointer (some ⟨X, 0, none⟩) := hev _ (by simp)
          have ev2 : ev (.tmp 2) = .int .i64 i := hev _ (by simp)
          have ev9 : ev (.tmp 9) = .int .i64 k := hev _ (by simp)
          have ev10 : ev (.tmp 10) = .pointer (some ⟨Bx, 0, none⟩) := hev _ (by simp)
          have evf : ∀ f, ev (.func f) = .func (.func f) #[] #[] := fun f => hev _ (by simp)
          have evc : ∀ c, ev (.const c) = c := fun c => hev _ (by simp)
          have k0 := (hb.cell (p := ⟨Bx, 0, none⟩) hBz).trans y0
          have k1 := (hb.cell (p := ⟨Bx, 1, none⟩) hBz).trans y1
          have k2 := (hb.cell (p := ⟨Bx, 2, none⟩) hBz).trans y2
          have k3 := (hb.cell (p := ⟨X, 3, none⟩) hXW).trans x3
          have k4 := (hb.cell (p := ⟨g', ik * 4, none⟩) hgW).trans z0
          have k5 := (hb.cell (p := ⟨g', ik1 * 4, none⟩) hgW).trans z1
          clear hev hb y0 y1 y2 x3 z0 z1 c3 e0 e1
          simp [DepsG, Held.is] at hd
          try simp [OpGuard, OpRuns, execOp, go_sem, Held.is, Below.refl, *]
        exact HNX.out w6
      · intro f w9 hb hf
        have e52 : f 52 = .bool false := hf 52 (by simp)
        have HB9 := hide (HB1.out.trans (((Below.refl W1.heap.size W1).drew.trans hb).mono HB1.out.size))
        clear hf hb y0 y1 y2 x3 z0 z1
        simp only [puts, Act.put, List.setIfInBounds_toArray, List.set_cons_succ, List.set_cons_zero]
        rw [e52]
        clear e52
        generalize f 24 = q24
        generalize f 25 = q25
        generalize f 26 = q26
        generalize f 27 = q27
        generalize f 28 = q28
        generalize f 29 = q29
        generalize f 30 = q30
        generalize f 31 = q31
        generalize f 32 = q32
        generalize f 33 = q33
        generalize f 34 = q34
        generalize f 35 = q35
        generalize f 36 = q36
        generalize f 37 = q37
        generalize f 38 = q38
        generalize f 39 = q39
        generalize f 40 = q40
        generalize f 41 = q41
        generalize f 42 = q42
        generalize f 43 = q43
        generalize f 44 = q44
        generalize f 45 = q45
        generalize f 46 = q46
        generalize f 47 = q47
        generalize f 48 = q48
        generalize f 49 = q49
        generalize f 50 = q50
        generalize f 51 = q51
        clear f
        go_wp2_with fail
        go_roundw
        case rel => exact ⟨k + 1, by omega, by go_num, HB9.out⟩
        case measure => simp [intOf]; omega
    · obtain rfl : k = xs.length := by omega
      have dk : decide ((xs.length : Int) < xs.length) = false := decide_eq_false (by omega)
      go_wp2_with fail
      go_ret
      exact ⟨rfl, HB.out⟩
end Go.Proofs.YtcmgppacipdnaaaGreatDoor

namespace Go.Proofs.YtcmgppacipdnaaaGreatDoor
open Go.RowKit Go.Maps Go.Sort

theorem BRow.mono {w : World} {lo lo' : Nat} {v : Value} {qs : List PBat} (h : BRow w lo v qs) (hl : lo' ≤ lo) : BRow w lo' v qs := by
  refine ⟨⟨h.own.1, ?_⟩, fun q hq => ?_⟩
  · rcases h.own.2 with h2 | ⟨g, cap, cur, e1, hg, r⟩
    · exact .inl h2
    · exact .inr ⟨g, cap, cur, e1, by omega, r⟩
  · obtain ⟨l0, wk, h0, r⟩ := h.el q hq
    exact ⟨l0, wk, by omega, r⟩

set_option maxRecDepth 100000 in
set_option maxHeartbeats 2000000 in
/-- Where the file has these batches. -/
theorem sgBatches_any (w0 w : World) (S T : Nat → Prop) (n Bd X : Nat) (d : Dk.St) (s : Sg.St) (p : Nat → Addr) (h : SgW w0 S T n Bd d X s w) (hs : SentsG w0 p) (ht : Tabs w0) (hn : n ≤ 1000) (i j : Nat) (xs : List Rc.Bat) (l : List UInt8)
    (hr : sgRaw d s i j = (none, l)) (ha : Rc.all l = (xs, l.length, 0)) (hx : Lies s xs i j) (hll : l.length ≤ 1000000) :
    Calls Tryz.prog 98 #[.pointer (some ⟨X, 0, none⟩), .int .i64 i, .int .i64 j] w fun e w' => ∃ v qs, e = .returned (.tuple #[v, .nilIface]) ∧ BRow w' w.heap.size v qs ∧ qs.map (·.b) = xs ∧ Below w.heap.size w w' := by
  have hjl := hx.lt
  have hij := hx.len
  have HR := hide (sgraw_any w0 w S T n Bd X d s p h hs hn i j (by omega) hjl)
  rw [hr] at HR
  have HS := hide (fun (W : World) (hw : Below w.heap.size w W) => (hs.below (h.below.trans (hw.mono h.below.size))).mono (T := fun j => j < 5) fun j hj => by omega)
  have HT := hide (fun (W : World) (hw : Below w.heap.size w W) => ht.below (h.below.trans (hw.mono h.below.size)) (Nat.le_refl _))
  have HALL := hide (fun (W : World) (hw : Below w.heap.size w W) (A : Option Addr) (c : Nat) (hA : Arg W A c l) => all_own A c l.length l W p rfl hll hA (HS.out W hw) (HT.out W hw))
  unfold AllOwn at HALL
  rw [ha] at HALL
  have e0 : errOf p 0 = .nilIface := by unfold errOf; rw [if_pos rfl]
  simp only [e0] at HALL
  have HLIE := hide (fun (W : World) (hw : Below w.heap.size w W) (A : Option Addr) (c0 m : Nat) (hm : xs.length = m) (hc : m ≤ c0) (hb : Bats W A xs) => sgLie_any X Bd s T A c0 m i j xs W (h.seg.below hw) h.ok hx hm hc hb)
  clear h hs ht hr ha hx e0 hjl hij
  go_enter Tryz.func98, Tryz.ntmps98
  go_wp2_with (first
    | (go_at_call 131; refine HR.out.mono ?_; rintro e w2 ⟨v2, rfl, ho2, hb2⟩; obtain ⟨A2, c2, rfl, ha2⟩ := ho2.arg; have HA2 := hide ha2; have HB2 := hide hb2; clear hb2 ho2 ha2; unfold errR)
    | (go_at_call 122; refine (HALL.out _ HB2.out A2 c2 HA2.out).mono ?_; rintro e w3 ⟨v3, qs, rfl, hr3, hq3, hb3⟩; obtain ⟨A3, c3, rfl, hc3, hm3, hbt3⟩ := hr3.val; rw [hq3] at hbt3; have HR3 := hide hr3; have HQ3 := hide hq3; have HB3 := hide (HB2.out.trans (hb3.mono HB2.out.size)); have HBT3 := hide hbt3; have HZ2 := hide HB2.out.size; have hxl : xs.length = qs.length := (by rw [← hq3]; simp); have HXL := hide hxl; clear hr3 hq3 hb3 hbt3 hm3 hxl)
    | (go_at_call 137; refine (HLIE.out _ HB3.out A3 c3 qs.length HXL.out hc3 HBT3.out).mono ?_; rintro e w4 ⟨rfl, hb4⟩; have HB4 := hide (HB3.out.trans (hb4.mono HB3.out.size)); have HR4 := hide (HR3.out.below hb4); clear hb4)
    | fail)
  go_ret2
  exact ⟨_, qs, rfl, HR4.out.mono HZ2.out, HQ3.out, HB4.out⟩
end Go.Proofs.YtcmgppacipdnaaaGreatDoor

namespace Go.Proofs.YtcmgppacipdnaaaGreatDoor
open Go.RowKit

namespace Ix
/-- The first mark whose time is not below t. -/
def St.when (s : St) (t : Int) : Int × Bool := match s.marks.find? (fun m => decide (t ≤ m.time)) with | some m => (m.off, true) | none => (0, false)
end Ix

end Go.Proofs.YtcmgppacipdnaaaGreatDoor

namespace Go.Proofs.YtcmgppacipdnaaaGreatDoor
open Go.RowKit

/-- ErrRange as the program lays it. -/
abbrev Sent4 (w : World) (p : Nat → Addr) : Prop := SentsOn (fun j => j = 4) w p
/-- An index at X since w0. -/
structure IxS (w0 : World) (X : Nat) (s : Ix.St) (w : World) : Prop where
  ix : IxAt w X s (fun k => w0.heap.size ≤ k ∧ k < w.heap.size)
  bel : Below w0.heap.size w0 w
  ok : Ix.Ok s
theorem IxS.drew {w0 : World} {X : Nat} {s : Ix.St} {w : World} (h : IxS w0 X s w) (q : Nat) : IxS w0 X s (w.drewN q) := ⟨h.ix.same fun _ _ _ => rfl, below_drewN h.bel q, h.ok⟩
theorem IxS.below {w0 : World} {X : Nat} {s : Ix.St} {w w' : World} (h : IxS w0 X s w) (hb : Below w.heap.size w w') : IxS w0 X s w' :=
  ⟨(h.ix.same fun k _ hk => hb.block k hk).mono fun _k hk => ⟨hk.1, Nat.lt_of_lt_of_le hk.2 hb.size⟩, h.bel.trans (hb.mono h.bel.size), h.ok⟩
theorem Ix.Ok.add {s : Ix.St} (h : Ix.Ok s) (o t p z : Int) : Ix.Ok (Ix.add s o t p z).2 := by
  unfold Ix.add
  split
  · rename_i hg; exact h.put o t p hg.1 hg.2.1 hg.2.2.2.1
  · exact h
theorem IxS.add {w0 : World} {X : Nat} {s : Ix.St} {w : World} (h : IxS w0 X s w) (p : Nat → Addr) (hs : Sent4 w0 p) (o t q z : Int) (hn : s.adds.length ≤ 1000000) (hm : s.marks.length ≤ 1000000) :
    Calls Tryz.prog 132 #[.pointer (some ⟨X, 0, none⟩), .int .i64 o, .int .i64 t, .int .i64 q, .int .i64 z] w fun r w' => r = .returned (errR p (Ix.add s o t q z).1) ∧ IxS w0 X (Ix.add s o t q z).2 w' := by
  refine (ixAdd_any X s _ p o t q z w h.ix h.ok hn hm ((hs.below h.bel).cell 4 rfl)).mono ?_
  rintro r w' ⟨rfl, hi, hc⟩
  have hz := h.bel.size
  have hcs := hc.size
  refine ⟨rfl, hi.mono fun k hk => ?_, h.bel.trans (hc.below hz fun k hk => hk.1), h.ok.add o t q z⟩
  rcases hk with hk | hk
  · exact ⟨hk.1, by omega⟩
  · exact ⟨by omega, hk.2⟩

end Go.Proofs.YtcmgppacipdnaaaGreatDoor

namespace Go.Proofs.YtcmgppacipdnaaaGreatDoor
open Go.RowKit

end Go.Proofs.YtcmgppacipdnaaaGreatDoor

namespace Go.Proofs.YtcmgppacipdnaaaGreatDoor
open Go.RowKit Go.Shelf Go.Sort

def lay_searchF_ren : Go.Shelf.Ren := ⟨fun | 16 => 53 | n => n, fun | 3 => 3 | 4 => 4 | 35 => 91 | 38 => 143 | n => n, fun | n => n⟩
theorem lay_searchF : Go.Proofs.SlLaysO.n16 Tryz.prog lay_searchF_ren := {
  mixed := by kernel_rfl
  f16 := Tryz.func53.trans (congrArg some (by kernel_rfl))
  t3 := Tryz.underlying3
  a3 := Tryz.isAgg3
  z3 := Tryz.sizeOf3
  v3 := Tryz.zeroValue3
  t4 := Tryz.underlying4
  a4 := Tryz.isAgg4
  z4 := Tryz.sizeOf4
  v4 := Tryz.zeroValue4
  t35 := Tryz.underlying91
  a35 := Tryz.isAgg91
  z35 := Tryz.sizeOf91
  v35 := Tryz.zeroValue91
  t38 := Tryz.underlying143
  a38 := Tryz.isAgg143
  z38 := Tryz.sizeOf143
  v38 := Tryz.zeroValue143 }

namespace Ix
def St.cnt (s : St) (o : Int) : Nat := (List.range s.marks.length).countP (fun i => !decide (o < (s.marks.getD i ⟨0, 0, 0⟩).off))
/-- The pos of the last mark that is not above o; 0 if there is none. -/
def St.find (s : St) (o : Int) : Int := if s.cnt o = 0 then 0 else (s.marks.getD (s.cnt o - 1) ⟨0, 0, 0⟩).pos
theorem St.cnt_le (s : St) (o : Int) : s.cnt o ≤ s.marks.length := by
  have := List.countP_le_length (p := fun i => !decide (o < (s.marks.getD i ⟨0, 0, 0⟩).off)) (l := List.range s.marks.length)
  simpa [St.cnt] using this
end Ix

end Go.Proofs.YtcmgppacipdnaaaGreatDoor

namespace Go.Proofs.YtcmgppacipdnaaaGreatDoor
open Go.RowKit Go.Shelf Go.Sort

namespace Ix
def St.cntM (s : St) (p : Int) : Nat := (List.range s.marks.length).countP (fun i => !decide (p ≤ (s.marks.getD i ⟨0, 0, 0⟩).pos))
def St.cntA (s : St) (p : Int) : Nat := (List.range s.adds.length).countP (fun i => !decide (p ≤ (s.adds.getD i ⟨0, 0⟩).pos))
def lastTime (l : List Mark) : Int := match l.getLast? with | some m => m.time | none => -1099511627776
/-- What lies at p, and behind, is away. -/
def St.cut (s : St) (p : Int) : St := ⟨s.every, s.marks.take (s.cntM p), s.adds.take (s.cntA p), lastTime (s.marks.take (s.cntM p))⟩
end Ix

end Go.Proofs.YtcmgppacipdnaaaGreatDoor

namespace Go.Proofs.YtcmgppacipdnaaaGreatDoor
open Go.RowKit Go.Shelf Go.Sort

set_option maxRecDepth 100000 in
theorem before1_any (B : Nat) (o a b c d : Int) (w : World) (cB : w.cell? ⟨B, 0, none⟩ = some (.int .i64 o)) :
    Calls Tryz.prog 136 #[.agg #[.int .i64 a, .int .i64 b, .int .i64 c, .int .i64 d], .pointer (some ⟨B, 0, none⟩)] w fun e w' => e = .returned (.bool (decide (o < a))) ∧ w' = w.alloc (.cells #[.int .i64 a, .int .i64 b, .int .i64 c, .int .i64 d] 138) := by
  have hB : B < w.heap.size := World.block_lt_of_cell? _ _ cB
  have c2 : (w.alloc (.cells #[.int .i64 a, .int .i64 b, .int .i64 c, .int .i64 d] 138)).cell? ⟨B, 0, none⟩ = some (.int .i64 o) := ((balloc (Below.refl w.heap.size w) _).cell (p := ⟨B, 0, none⟩) hB).trans cB
  go_enter Tryz.func136, Tryz.ntmps136
  go_wp2_with fail
  go_ret
  exact ⟨rfl, rfl⟩

/-- A test of edges: it reads, and may make new memory. -/
def Tests (F : Nat) (caps : Array Value) (P : Sg.Edge → Bool) (W : World) : Prop :=
  ∀ e : Sg.Edge, (0 ≤ e.pos ∧ e.pos ≤ 1000000000) → Calls Tryz.prog F (#[egV e] ++ caps) W fun r w' => r = .returned (.bool (P e)) ∧ ∃ q os, w' = grow (W.drewN q) os

set_option maxRecDepth 100000 in
theorem until1_any (B1 B2 X F : Nat) (caps : Array Value) (P : Sg.Edge → Bool) (A : Option Addr) (c i : Nat) (l : List Sg.Edge) (w : World) (hi : i < l.length) (he : EgAt w A c l) (c1 : w.cell? ⟨B1, 0, none⟩ = some (.func (.func F) #[] caps)) (c2 : w.cell? ⟨B2, 0, none⟩ = some (.pointer (some ⟨X, 0, none⟩)))
    (c3 : w.cell? ⟨X, 3, none⟩ = some (.slice A l.length c)) (hE : Enters Tryz.prog F) (hp : 0 ≤ (Sg.ed l i).pos ∧ (Sg.ed l i).pos ≤ 1000000000) (hF : ∀ q, Tests F caps P (w.drewN q)) :
    Calls Tryz.prog 139 (#[.int .i64 i] ++ #[.pointer (some ⟨B1, 0, none⟩), .pointer (some ⟨B2, 0, none⟩)]) w fun e w' => e = .returned (.bool (P (Sg.ed l i))) ∧ ∃ q os, w' = grow (w.drewN q) os := by
  show Calls Tryz.prog 139 #[.int .i64 i, .pointer (some ⟨B1, 0, none⟩), .pointer (some ⟨B2, 0, none⟩)] w _
  obtain ⟨g, rfl, hg, k0, k1, k2, k3⟩ := he.at_ i hi
  have hle := he.le
  have HF := hide (hF 1 (Sg.ed l i) hp)
  generalize Sg.ed l i = m at *
  obtain ⟨mo, mp, me, mt⟩ := m
  generalize l.length = n at *
  simp only at k0 k1 k2 k3
  unfold egV at HF
  simp only at HF
  unfold Enters at hE
  clear he hF hp
  go_enter Tryz.func139, Tryz.ntmps139
  go_upto_region 1 with fail
  go_still_tail 8, (by kernel_rfl)
  change wpList _ _ _ _ _ w.drew
  go_wp2_with fail
  refine HF.out.mono ?_
  rintro e w2 ⟨rfl, q, os, hw⟩
  have HW := hide hw
  clear hw
  go_wp2_with fail
  go_ret
  exact ⟨rfl, q + 1, os, by rw [HW.out, World.drewN_drewN, Nat.add_comm]⟩

namespace Sg
/-- How many edges the test lets pass. -/
def cnt (l : List Edge) (P : Edge → Bool) : Nat := (List.range l.length).countP (fun i => !P (ed l i))
theorem cnt_le (l : List Edge) (P : Edge → Bool) : cnt l P ≤ l.length := by
  have := List.countP_le_length (p := fun i => !P (ed l i)) (l := List.range l.length)
  simpa [cnt] using this
end Sg

set_option maxRecDepth 100000 in
set_option maxHeartbeats 1000000 in
theorem until_any (X D F : Nat) (caps : Array Value) (P : Sg.Edge → Bool) (s : Sg.St) (T : Nat → Prop) (w : World) (h : SegAt w X D s T) (ho : Sg.Ok s) (hE : Enters Tryz.prog F) (hF : ∀ W, Below w.heap.size w W → Tests F caps P W)
    (hmono : ∀ a b, a ≤ b → b < s.edges.length → P (Sg.ed s.edges a) = true → P (Sg.ed s.edges b) = true) :
    Calls Tryz.prog 100 #[.pointer (some ⟨X, 0, none⟩), .func (.func F) #[] caps] w fun e w' => e = .returned (.int .i64 ((Sg.cnt s.edges P : Int) - 1)) ∧ Below w.heap.size w w' := by
  obtain ⟨v, h⟩ := h
  obtain ⟨A, c, rfl, he, -, -, -, c3, -⟩ := h.cells
  have hX := h.lt
  have hlen := ho.len
  obtain ⟨W0, hW0⟩ : ∃ W0, W0 = (w.alloc (.cells #[.pointer (some ⟨X, 0, none⟩)] 87)).alloc (.cells #[.func (.func F) #[] caps] 146) := ⟨_, rfl⟩
  have hb0 : Below w.heap.size w W0 := by rw [hW0]; exact balloc (balloc (Below.refl _ _) _) _
  have b0 : W0.cell? ⟨w.heap.size, 0, none⟩ = some (.pointer (some ⟨X, 0, none⟩)) := by rw [hW0]; exact cell_alloc_sl _ (cell_new_sl _ _ _)
  have b1 : W0.cell? ⟨w.heap.size + 1, 0, none⟩ = some (.func (.func F) #[] caps) := by
    rw [hW0]
    have e : (w.alloc (.cells #[.pointer (some ⟨X, 0, none⟩)] 87)).heap.size = w.heap.size + 1 := by simp
    rw [← e]; exact cell_new_sl _ _ _
  have x3 : W0.cell? ⟨X, 3, none⟩ = some (.slice A s.edges.length c) := (hb0.cell (p := ⟨X, 3, none⟩) hX).trans c3
  have hle := he.le
  have hS := Any.sort_Search (P := Tryz.prog) lay_searchF 139 #[.pointer (some ⟨w.heap.size + 1, 0, none⟩), .pointer (some ⟨w.heap.size, 0, none⟩)] s.edges.length (fun i => P (Sg.ed s.edges i)) W0 (enters_of Tryz.func139 (by kernel_rfl) rfl) (by omega)
    (fun m os i hi => by
      have hbg := below_grown_sl W0.heap.size W0 m os (Nat.le_refl _)
      have up : ∀ {a v}, W0.cell? a = some v → (grow (W0.drewN m) os).cell? a = some v := fun {a v} ha => (hbg.cell (p := a) (World.block_lt_of_cell? _ _ ha)).trans ha
      have hbw : Below w.heap.size w (grow (W0.drewN m) os) := hb0.trans (hbg.mono hb0.size)
      refine (until1_any (w.heap.size + 1) w.heap.size X F caps P A c i s.edges _ hi (he.below hbw) (up b1) (up b0) (up x3) hE (ho.pos _ (Sg.ed_mem hi)) fun q => hF _ (below_drewN hbw q)).mono ?_
      rintro e w' ⟨rfl, q, os2, hw2⟩
      exact ⟨rfl, q, os2, hw2⟩)
    (fun a b hab hb ha => hmono a b hab hb ha)
  have hk2 : (List.range s.edges.length).countP (fun i => !P (Sg.ed s.edges i)) = Sg.cnt s.edges P := rfl
  rw [hk2] at hS
  have hkn := Sg.cnt_le s.edges P
  generalize Sg.cnt s.edges P = k at *
  generalize s.edges.length = n at *
  have HSE := hide hS
  have HB0 := hide hb0
  have HW0 := hide hW0
  clear h ho hE hF hmono hS hb0 hW0 c3 he hk2
  have hw1 : IntKind.i64.wrap ((k : Int) - 1) = (k : Int) - 1 := by rw [IntKind.wrap_i64]; omega
  go_enter Tryz.func100, Tryz.ntmps100
  go_upto_region 1 with fail
  rw [← HW0.out]
  go_wp2_with (first
    | (go_at_call 53; refine HSE.out.mono ?_; rintro e w2 ⟨rfl, q, os, hw2⟩; have HB2 : Hid (Below W0.heap.size W0 w2) := hide (hw2 ▸ below_grown_sl W0.heap.size W0 q os (Nat.le_refl _)); clear hw2)
    | fail)
  go_ret
  exact ⟨rfl, HB0.out.trans (HB2.out.mono HB0.out.size)⟩

set_option maxRecDepth 100000 in
set_option maxHeartbeats 1000000 in
/-- The last edge whose offset is not above this one; below 0, if there is none. -/
theorem sgBefore_any (X D : Nat) (s : Sg.St) (T : Nat → Prop) (o : Int) (w : World) (h : SegAt w X D s T) (ho : Sg.Ok s) (hmono : ∀ a b, a ≤ b → b < s.edges.length → (Sg.ed s.edges a).off ≤ (Sg.ed s.edges b).off) :
    Calls Tryz.prog 97 #[.pointer (some ⟨X, 0, none⟩), .int .i64 o] w fun e w' => e = .returned (.int .i64 ((Sg.cnt s.edges (fun e => decide (o < e.off)) : Int) - 1)) ∧ Below w.heap.size w w' := by
  have hb1 : Below w.heap.size w (w.alloc (.cells #[.int .i64 o] 2)) := balloc (Below.refl _ _) _
  have cB : (w.alloc (.cells #[.int .i64 o] 2)).cell? ⟨w.heap.size, 0, none⟩ = some (.int .i64 o) := cell_new_sl _ _ _
  have HU := hide (until_any X D 136 #[.pointer (some ⟨w.heap.size, 0, none⟩)] (fun e => decide (o < e.off)) s T _ (h.below hb1) ho (enters_of Tryz.func136 (by kernel_rfl) rfl)
    (fun W hw e _ => (before1_any w.heap.size o e.off e.pos e.ep e.time W ((hw.cell (p := ⟨w.heap.size, 0, none⟩) (by simp)).trans cB)).mono fun r w' ⟨h1, h2⟩ => ⟨h1, 0, #[.cells #[.int .i64 e.off, .int .i64 e.pos, .int .i64 e.ep, .int .i64 e.time] 138], by rw [h2]; rfl⟩)
    (fun a b hab hb ha => decide_eq_true (by have := of_decide_eq_true ha; have := hmono a b hab hb; omega)))
  have HB1 := hide hb1
  generalize Sg.cnt s.edges (fun e => decide (o < e.off)) = k at *
  clear h ho hmono hb1 cB
  go_enter Tryz.func97, Tryz.ntmps97
  go_wp2_with (first
    | (go_at_call 100; refine HU.out.mono ?_; rintro e w2 ⟨rfl, hb2⟩; have HB2 := hide (HB1.out.trans (hb2.mono HB1.out.size)); clear hb2)
    | fail)
  go_ret
  exact ⟨rfl, HB2.out⟩
end Go.Proofs.YtcmgppacipdnaaaGreatDoor
