/-
  A store's Get and Head.
  The laying of maps.Keys, slices.Sorted and slices.Sort at the numbers of a store's uploads.
  The laying of maps.Keys, slices.Sorted and slices.Sort at the names of a store's objects.
  Rows of texts: of the call's own, made and appended to; and read.
  Names, plainly: numbers in so many digits, what they are read as, how they stand to one another; segments' and objects' names; texts that rise, each once.
  Texts that rise, each once, plainly: put in place one by one, or sorted and made compact: one list.
  A store's names and uploads: Names, Open.
  strings.HasPrefix, found in this program.
  A store's List.
-/
import Derived.Test.YtlflijhnlcdakaaGreatDoorT4
import Derived.Test.YtlflijhnlcdakaaGreatDoorB2
import Derived.Shelf.SlIter.Nil
import Derived.Shelf.SlIterI.Nil
import Derived.Shelf.SortM.Plain
import Derived.Shelf.SortM.SortNone
import Derived.Test.YtlflijhnlcdakaaGreatDoorRows
import Derived.Test.YtlflijhnlcdakaaGreatDoorT1
import Derived.Sort.EncStr
import Derived.WalkKit
import Derived.ProofKit
import Derived.Below
import Derived.BigQuiet
import Derived.Deep.QuietTactic
import Derived.Outline
import Derived.LoopTactic
import Derived.Deep.LoopGhost
import Derived.Lib.ParseIntB
import Derived.Lib.ParseIntBCases
import Derived.Lib.ItoaNum
import Derived.Lib.Repeat
import Derived.Lib.Join
import Derived.Lib.Split
import Derived.Lib.SplitLaws
import Derived.Lib.SlicesCompact
import Derived.Shelf.Lays
import Derived.Shelf.Strings.Prefix
namespace Go.Proofs.YtlflijhnlcdakaaGreatDoor
open Go.RowKit Go.Maps

/-- What is at a name, as a look-up tells it. -/
theorem StoreL.lookObj {w : World} {sb ob ub : Nat} {sv : Value} {ov : St.Nm → Option Value} {pb : Int → Nat} {pv : Int → Int → Option Value} {s : St.S} {m : Nat} {S D : Nat → Prop} (h : StoreL w sb ob ub sv ov pb pv s m S D) (k : List UInt8) (hk : k.length ≤ 9223372036854775807) :
    ∃ A c, (∀ q, (Instr.lookup 95 (.map (some ob)) (encStr k) true).run Tryz.prog (w.drewN q) = .ok (.tuple #[.slice A ((s.objs k).getD []).length c, .bool (s.objs k).isSome]) (w.drewN q)) ∧ ((s.objs k).getD []).length ≤ 1000000000 ∧ Arg w A c ((s.objs k).getD []) := by
  have hl := fun q => (show MapS (w.drewN q) ob m ov from h.objs.same rfl).look strK map_objs (zero_bytes (w.drewN q)) k (strKey hk)
  have hb := h.oat k
  cases h1 : ov k with
  | none =>
    cases h2 : s.objs k with
    | none => rw [h1] at hl; exact ⟨none, 0, hl, by simp, ⟨by simp, by omega, fun _ => rfl, .inl rfl⟩⟩
    | some b => rw [h1, h2] at hb; exact hb.elim
  | some v =>
    cases h2 : s.objs k with
    | none => rw [h1, h2] at hb; exact hb.elim
    | some b =>
      rw [h1, h2] at hb
      obtain ⟨A, c, rfl, q1, q2, q3, q4, q5, _⟩ := hb
      rw [h1] at hl
      exact ⟨A, c, hl, q3, ⟨q1, q2, q4, q5⟩⟩

set_option maxRecDepth 100000 in
set_option maxHeartbeats 1000000 in
/-- The closure of Get. -/
theorem stGet1_any {w : World} {sb ob ub : Nat} {sv : Value} {ov : St.Nm → Option Value} {pb : Int → Nat} {pv : Int → Int → Option Value} {s : St.S} {m : Nat} {S D : Nat → Prop} (h : StoreL w sb ob ub sv ov pb pv s m S D) (p : Nat → Addr)
    (hs6 : w.cell? ⟨1, 0, none⟩ = some (errV (p 6))) (hs4 : w.cell? ⟨2, 0, none⟩ = some (errV (p 4))) (xb nb fb lb : Nat) (k : List UInt8) (hk : k.length ≤ 1000000000) (off n : Int) (hoff : -9223372036854775808 ≤ off ∧ off ≤ 9223372036854775807) (hn : -9223372036854775808 ≤ n ∧ n ≤ 9223372036854775807)
    (c1 : w.cell? ⟨xb, 0, none⟩ = some (.pointer (some ⟨sb, 0, none⟩))) (c2 : w.cell? ⟨nb, 0, none⟩ = some (encStr k)) (c3 : w.cell? ⟨fb, 0, none⟩ = some (.int .i64 off)) (c4 : w.cell? ⟨lb, 0, none⟩ = some (.int .i64 n)) :
    Calls Tryz.prog 80 #[.pointer (some ⟨xb, 0, none⟩), .pointer (some ⟨nb, 0, none⟩), .pointer (some ⟨fb, 0, none⟩), .pointer (some ⟨lb, 0, none⟩)] w fun e w' => ∃ A l c, e = .returned (.tuple #[.slice A l c, errR p (s.getF k off n).1.2]) ∧ Own w' w.heap.size (.slice A l c) (s.getF k off n).1.1 ∧ (s.getF k off n).2 = s ∧ Below w.heap.size w w' := by
  obtain ⟨A, c, hl, hle, ha⟩ := h.lookObj k (by omega)
  have b0 : w.cell? ⟨sb, 0, none⟩ = some (.map (some ob)) := box_cell h.box 0
  unfold errV at hs6 hs4
  obtain ⟨r, hr⟩ : ∃ r, s.getF k off n = r := ⟨_, rfl⟩
  rw [hr]
  unfold St.S.getF at hr
  clear h
  cases ho : s.objs k with
  | none =>
    rw [ho] at hl hr
    subst hr
    simp only [Option.getD_none, Option.isSome_none] at hl
    clear hle ha
    go_enter Tryz.func80, Tryz.ntmps80
    go_wp2_with fail
    go_quiet (fail)
    go_wp2_with fail
    go_quiet (fail)
    go_wp2_with fail
    go_returns
    exact ⟨_, _, _, by first | rfl | trivial, Own.nil _ _, by trivial, below_drewN (below_drewN (Below.refl _ _) _) _⟩
  | some b =>
    rw [ho] at hl hle ha hr
    simp only at hr
    simp only [Option.getD_some, Option.isSome_some] at hl hle ha
    clear ho
    have HA := hide ha
    generalize hbl : b.length = L at *
    have HBL := hide hbl
    clear ha hbl
    by_cases h0 : off < 0
    · rw [if_pos (.inl h0)] at hr
      subst hr
      go_enter Tryz.func80, Tryz.ntmps80
      go_wp2_with fail
      go_quiet (fail)
      go_wp2_with fail
      go_quiet (fail)
      go_wp2_with fail
      go_returns
      exact ⟨_, _, _, by first | rfl | trivial, Own.nil _ _, by trivial, below_drewN (below_drewN (Below.refl _ _) _) _⟩
    · obtain ⟨x, rfl⟩ : ∃ x : Nat, off = (x : Int) := ⟨off.toNat, by omega⟩
      have hw1 : IntKind.i64.wrap ((L : Int) - (x : Int)) = (L : Int) - (x : Int) := IntWalk.i64_in _ (by omega)
      by_cases h1 : n < 0
      · rw [if_pos (.inr (.inl h1))] at hr
        subst hr
        go_enter Tryz.func80, Tryz.ntmps80
        go_wp2_with fail
        go_quiet (fail)
        go_wp2_with fail
        go_quiet (fail)
        go_wp2_with fail
        go_returns
        exact ⟨_, _, _, by first | rfl | trivial, Own.nil _ _, by trivial, below_drewN (below_drewN (Below.refl _ _) _) _⟩
      · obtain ⟨m', rfl⟩ : ∃ x : Nat, n = (x : Int) := ⟨n.toNat, by omega⟩
        by_cases h2 : (L : Int) - (x : Int) < (m' : Int)
        · rw [if_pos (.inr (.inr h2))] at hr
          subst hr
          go_enter Tryz.func80, Tryz.ntmps80
          go_wp2_with fail
          go_quiet (fail)
          go_wp2_with fail
          go_quiet (fail)
          go_wp2_with fail
          go_returns
          exact ⟨_, _, _, by first | rfl | trivial, Own.nil _ _, by trivial, below_drewN (below_drewN (Below.refl _ _) _) _⟩
        · have d3 : decide ((L : Int) - (x : Int) < (m' : Int)) = false := by simp; omega
          rw [if_neg (by omega)] at hr
          simp only [Int.toNat_natCast] at hr
          subst hr
          have hx : x + m' ≤ L := by omega
          obtain ⟨y, hy⟩ : ∃ y, y = x + m' := ⟨_, rfl⟩
          have hw2 : IntKind.i64.wrap ((x : Int) + (m' : Int)) = (y : Int) := by rw [IntWalk.i64_in _ (by omega)]; omega
          have HY := hide hy
          have hlec := HA.out.le
          have hct := fun W => run_cut_lh W A L c x y (by omega) (by have := HBL.out; omega)
          rw [show y - x = m' by omega] at hct
          have HCA : Hid (∀ W, Below w.heap.size w W → Calls Tryz.prog 74 #[.slice (cutA A c x) m' (c - x)] W fun e w' => ∃ v, e = .returned v ∧ Own w' W.heap.size v ((b.drop x).take m') ∧ Below W.heap.size W w') := hide (fun W hW =>
            bclone_any _ _ _ _ W (by rw [List.length_take, List.length_drop]; have := HBL.out; omega) (by omega) (((HA.out.below hW (Nat.le_refl _)).cut x (by have := HBL.out; omega)).first m'))
          have HLN : Hid (((b.drop x).take m').length = m') := hide (by rw [List.length_take, List.length_drop]; have := HBL.out; omega)
          clear h0 h1 h2 hy
          go_enter Tryz.func80, Tryz.ntmps80
          go_wp2_with fail
          go_quiet (fail)
          have HCW := hide (HCA.out _ (below_drewN (Below.refl _ _) nq))
          go_wp2_with (first
            | (go_at_call 74; refine HCW.out.mono ?_; rintro e w2 ⟨v, rfl, ho, hb⟩; obtain ⟨A2, c2, rfl, -⟩ := own_n (n := m') ho HLN.out; have HO := hide ho; have HB := hide hb; clear ho hb)
            | fail)
          go_returns
          exact ⟨_, _, _, by first | rfl | trivial, HO.out, by trivial, (below_drewN (Below.refl _ _) _).trans HB.out⟩

def St.S.get (s : St.S) (k : St.Nm) (off n : Int) : (List UInt8 × Option Nat) × St.S := s.ask [] (St.S.getF k off n)
theorem St.get_quiet (k : St.Nm) (off n : Int) : St.Quiet (St.S.getF k off n) := fun t => by unfold St.S.getF; split; exact ⟨rfl, rfl⟩; split <;> exact ⟨rfl, rfl⟩
set_option maxRecDepth 100000 in
set_option maxHeartbeats 1000000 in
theorem StS.get {w0 w : World} {S D : Nat → Prop} {sb n : Nat} {s : St.S} (h : StS w0 S D sb s n w) (p : Nat → Addr) (hs : Sents w0 p) (hn : n ≤ 1000000) (k : List UInt8) (hk : k.length ≤ 100000) (off l : Int) (hoff : -9223372036854775808 ≤ off ∧ off ≤ 9223372036854775807) (hl : -9223372036854775808 ≤ l ∧ l ≤ 9223372036854775807) :
    Calls Tryz.prog 12 #[.pointer (some ⟨sb, 0, none⟩), encStr k, .int .i64 off, .int .i64 l] w fun e w' => ∃ v, e = .returned (.tuple #[v, errR p (s.get k off l).1.2]) ∧ Own w' w.heap.size v (s.get k off l).1.1 ∧ StS w0 S D sb (s.get k off l).2 (n + 1) w' ∧ Chg S w w' := by
  obtain ⟨W, hW⟩ : ∃ W, W = ((((w.alloc (.cells #[.pointer (some ⟨sb, 0, none⟩)] 24)).alloc (.cells #[encStr k] 9)).alloc (.cells #[.int .i64 off] 3)).alloc (.cells #[.int .i64 l] 3)) := ⟨_, rfl⟩
  have hb : Below w.heap.size w W := hW ▸ balloc (balloc (balloc (balloc (Below.refl _ _) _) _) _) _
  have q0 : W.cell? ⟨w.heap.size, 0, none⟩ = some (.pointer (some ⟨sb, 0, none⟩)) := by
    rw [hW, World.cell?_alloc_lt _ _ _ (by simp <;> omega), World.cell?_alloc_lt _ _ _ (by simp <;> omega), World.cell?_alloc_lt _ _ _ (by simp <;> omega), World.cell?_alloc_mark]; rfl
  have q1 : W.cell? ⟨w.heap.size + 1, 0, none⟩ = some (encStr k) := by
    have e : (w.alloc (.cells #[.pointer (some ⟨sb, 0, none⟩)] 24)).heap.size = w.heap.size + 1 := by simp
    rw [hW, World.cell?_alloc_lt _ _ _ (by simp <;> omega), World.cell?_alloc_lt _ _ _ (by simp <;> omega), ← e, World.cell?_alloc_mark]; rfl
  have q2 : W.cell? ⟨w.heap.size + 2, 0, none⟩ = some (.int .i64 off) := by
    have e : ((w.alloc (.cells #[.pointer (some ⟨sb, 0, none⟩)] 24)).alloc (.cells #[encStr k] 9)).heap.size = w.heap.size + 2 := by simp
    rw [hW, World.cell?_alloc_lt _ _ _ (by simp <;> omega), ← e, World.cell?_alloc_mark]; rfl
  have q3 : W.cell? ⟨w.heap.size + 3, 0, none⟩ = some (.int .i64 l) := by
    have e : (((w.alloc (.cells #[.pointer (some ⟨sb, 0, none⟩)] 24)).alloc (.cells #[encStr k] 9)).alloc (.cells #[.int .i64 off] 3)).heap.size = w.heap.size + 3 := by simp
    rw [hW, ← e, World.cell?_alloc_mark]; rfl
  have hbW := h.below.trans (hb.mono h.below.size)
  have hsb : sb < w.heap.size := by obtain ⟨_, _, _, _, _, _, hl⟩ := h.st; exact hl.lt _ (.inl hl.msb)
  have hSg : ∀ j, j < 19 → ¬ S (gs.getD j 0) := fun j hj hS => by have := h.lo _ (.inl hS); have := hs.size j hj; omega
  have hsbg : ∀ j, j < 19 → gs.getD j 0 ≠ sb := fun j hj e => by obtain ⟨_, _, _, _, _, _, hl⟩ := h.st; exact hSg j hj (e ▸ hl.msb)
  have hmsb : S sb := by obtain ⟨_, _, _, _, _, _, hl⟩ := h.st; exact hl.msb
  have HB := hide (ansCallB (h.st.below hb) ⟨h.calls.1, by have := h.calls.2; omega⟩ ⟨h.failed.1, by have := h.failed.2; omega⟩ p (errCell hs hbW 10 (by omega)) (hSg 10 (by omega)) 80 #[.pointer (some ⟨w.heap.size, 0, none⟩), .pointer (some ⟨w.heap.size + 1, 0, none⟩), .pointer (some ⟨w.heap.size + 2, 0, none⟩), .pointer (some ⟨w.heap.size + 3, 0, none⟩)] (enters_of Tryz.func80 (by kernel_rfl) rfl) ([] : List UInt8) (St.S.getF k off l) (fun a v W => Own W w.heap.size v a) (fun a v W W' h1 h2 => Own.below h1 h2 (Nat.le_refl _)) (fun W => Own.nil _ _) (fun t W' => IsStore W' sb t n S D ∧ Chg S W W') (fun w1 hc hi => ⟨hi, hc.mono fun k e => e ▸ hmsb⟩) (fun t W W' hh hb => ⟨hh.1.below hb, hh.2.then (Chg.of_below hb)⟩) (fun t W hh => hh.2)
    fun w1 hc1 h1 => by
      obtain ⟨ob, ub, sv, ov, pb, pv, h1⟩ := h1
      refine (stGet1_any h1 p (hc1.cell (errCell hs hbW 6 (by omega)) (hsbg 6 (by omega))) (hc1.cell (errCell hs hbW 4 (by omega)) (hsbg 4 (by omega))) _ _ _ _ k (by omega) off l hoff hl (hc1.cell q0 (by show ¬ (w.heap.size = sb); omega)) (hc1.cell q1 (by show ¬ (w.heap.size + 1 = sb); omega)) (hc1.cell q2 (by show ¬ (w.heap.size + 2 = sb); omega)) (hc1.cell q3 (by show ¬ (w.heap.size + 3 = sb); omega))).mono ?_
      rintro e w2 ⟨A, x, c, he, ho, hst, hb2⟩
      have hz1 := hc1.size
      refine ⟨A, x, c, he, ho.mono (Nat.le_trans hb.size hz1), ?_⟩
      rw [hst]
      exact ⟨IsStore.below ⟨_, _, _, _, _, _, h1⟩ hb2, (hc1.mono fun k e => e ▸ hmsb).then (Chg.of_below hb2)⟩)
  have HP : Hid (∀ w', IsStore w' sb (s.ask ([] : List UInt8) (St.S.getF k off l)).2 n S D ∧ Chg S W w' → StS w0 S D sb (s.ask ([] : List UInt8) (St.S.getF k off l)).2 (n + 1) w' ∧ Chg S w w') := hide (fun w' hp => by
    have hq := St.ask_num (St.get_quiet k off l) s ([] : List UInt8)
    have := h.calls; have := h.failed
    have hch := (Chg.of_below hb).then hp.2
    exact ⟨h.read hp.1 hch ⟨by omega, by omega⟩ ⟨by omega, by omega⟩, hch⟩)
  have HW := hide hW
  clear h hs hW hb q0 q1 q2 q3 hbW hSg hsbg hsb hmsb
  go_enter Tryz.func12, Tryz.ntmps12
  go_wp2_with (first
    | (go_at_call 79; rw [← HW.out]; refine HB.out.mono ?_; rintro e w1 ⟨A, x, c, rfl, ho, hp⟩; have H := hide (HP.out _ hp); have HO := hide ho; clear hp ho)
    | fail)
  go_returns
  exact ⟨_, rfl, HO.out, H.out⟩
end Go.Proofs.YtlflijhnlcdakaaGreatDoor

namespace Go.Proofs.YtlflijhnlcdakaaGreatDoor
open Go.Shelf
def lay_keysIF_ren : Go.Shelf.Ren := ⟨fun | 7 => 118 | 10 => 136 | n => n, fun | 23 => 96 | 26 => 3 | 3 => 102 | 28 => 150 | 0 => 0 | 27 => 149 | 33 => 165 | 4 => 4 | n => n, fun | n => n⟩
theorem lay_keysIF : Go.Proofs.SlLaysZI.n7 Tryz.prog lay_keysIF_ren := {
  mixed := by kernel_rfl
  f7 := ⟨Tryz.f118.name, by decide, Tryz.func118.trans (congrArg some (by kernel_rfl))⟩
  f10 := ⟨Tryz.f136.name, by decide, Tryz.func136.trans (congrArg some (by kernel_rfl))⟩
  t0 := Tryz.underlying0
  a0 := Tryz.isAgg0
  z0 := Tryz.sizeOf0
  v0 := Tryz.zeroValue0
  t4 := Tryz.underlying4
  a4 := Tryz.isAgg4
  z4 := Tryz.sizeOf4
  v4 := Tryz.zeroValue4
  t23 := Tryz.underlying96
  a23 := Tryz.isAgg96
  z23 := Tryz.sizeOf96
  v23 := Tryz.zeroValue96
  t26 := Tryz.underlying3
  a26 := Tryz.isAgg3
  z26 := Tryz.sizeOf3
  v26 := Tryz.zeroValue3
  t27 := Tryz.underlying149
  a27 := Tryz.isAgg149
  z27 := Tryz.sizeOf149
  v27 := Tryz.zeroValue149
  t28 := Tryz.underlying150
  a28 := Tryz.isAgg150
  z28 := Tryz.sizeOf150
  v28 := Tryz.zeroValue150
  t33 := Tryz.underlying165
  a33 := Tryz.isAgg165
  z33 := Tryz.sizeOf165
  v33 := Tryz.zeroValue165 }
def lay_sortedIF_ren : Go.Shelf.Ren := ⟨fun | 6 => 117 | 8 => 134 | 9 => 135 | 11 => 143 | 13 => 139 | 12 => 144 | 23 => 154 | 24 => 155 | 14 => 158 | 15 => 159 | 16 => 160 | 17 => 161 | 18 => 162 | 19 => 163 | 20 => 164 | 21 => 165 | 22 => 166 | 25 => 173 | 26 => 168 | 27 => 169 | 28 => 174 | 29 => 175 | 30 => 176 | 31 => 178 | n => n, fun | 26 => 3 | 28 => 150 | 24 => 29 | 0 => 0 | 3 => 3 | 37 => 169 | 48 => 46 | 50 => 189 | 4 => 4 | 40 => 182 | 39 => 181 | 45 => 142 | 5 => 5 | 9 => 9 | 51 => 199 | 55 => 203 | 57 => 207 | 58 => 60 | 33 => 165 | n => n, fun | n => n⟩
theorem lay_sortedIF : Go.Proofs.SlLaysZI.n6 Tryz.prog lay_sortedIF_ren := {
  mixed := by kernel_rfl
  f6 := ⟨Tryz.f117.name, by decide, Tryz.func117.trans (congrArg some (by kernel_rfl))⟩
  f8 := ⟨Tryz.f134.name, by decide, Tryz.func134.trans (congrArg some (by kernel_rfl))⟩
  f11 := ⟨Tryz.f143.name, by decide, Tryz.func143.trans (congrArg some (by kernel_rfl))⟩
  t0 := Tryz.underlying0
  a0 := Tryz.isAgg0
  z0 := Tryz.sizeOf0
  v0 := Tryz.zeroValue0
  t24 := Tryz.underlying29
  a24 := Tryz.isAgg29
  z24 := Tryz.sizeOf29
  v24 := Tryz.zeroValue29
  t26 := Tryz.underlying3
  a26 := Tryz.isAgg3
  z26 := Tryz.sizeOf3
  v26 := Tryz.zeroValue3
  t28 := Tryz.underlying150
  a28 := Tryz.isAgg150
  z28 := Tryz.sizeOf150
  v28 := Tryz.zeroValue150
  i26 := by kernel_rfl }
def lay_sortIF_ren : Go.Shelf.Ren := ⟨fun | 5 => 135 | 8 => 139 | 7 => 144 | 19 => 154 | 20 => 155 | 10 => 158 | 11 => 159 | 12 => 160 | 13 => 161 | 14 => 162 | 15 => 163 | 16 => 164 | 17 => 165 | 18 => 166 | 30 => 173 | 31 => 168 | 32 => 169 | 33 => 174 | 34 => 175 | 35 => 176 | 40 => 178 | n => n, fun | 23 => 29 | 25 => 3 | 3 => 3 | 32 => 169 | 22 => 29 | 0 => 0 | 44 => 46 | 46 => 189 | 4 => 4 | 36 => 182 | 35 => 181 | 41 => 142 | 5 => 5 | 9 => 9 | 53 => 199 | 57 => 203 | 63 => 207 | 64 => 60 | n => n, fun | n => n⟩
theorem lay_sortIF : Go.Proofs.SlLaysM.n5 Tryz.prog lay_sortIF_ren := {
  mixed := by kernel_rfl
  f5 := ⟨Tryz.f135.name, by decide, Tryz.func135.trans (congrArg some (by kernel_rfl))⟩
  f7 := ⟨Tryz.f144.name, by decide, Tryz.func144.trans (congrArg some (by kernel_rfl))⟩
  f8 := Tryz.func139.trans (congrArg some (by kernel_rfl))
  f10 := ⟨Tryz.f158.name, by decide, Tryz.func158.trans (congrArg some (by kernel_rfl))⟩
  f11 := ⟨Tryz.f159.name, by decide, Tryz.func159.trans (congrArg some (by kernel_rfl))⟩
  f12 := ⟨Tryz.f160.name, by decide, Tryz.func160.trans (congrArg some (by kernel_rfl))⟩
  f13 := ⟨Tryz.f161.name, by decide, Tryz.func161.trans (congrArg some (by kernel_rfl))⟩
  f14 := ⟨Tryz.f162.name, by decide, Tryz.func162.trans (congrArg some (by kernel_rfl))⟩
  f15 := ⟨Tryz.f163.name, by decide, Tryz.func163.trans (congrArg some (by kernel_rfl))⟩
  f16 := ⟨Tryz.f164.name, by decide, Tryz.func164.trans (congrArg some (by kernel_rfl))⟩
  f17 := ⟨Tryz.f165.name, by decide, Tryz.func165.trans (congrArg some (by kernel_rfl))⟩
  f18 := ⟨Tryz.f166.name, by decide, Tryz.func166.trans (congrArg some (by kernel_rfl))⟩
  f19 := Tryz.func154.trans (congrArg some (by kernel_rfl))
  f20 := Tryz.func155.trans (congrArg some (by kernel_rfl))
  f30 := ⟨Tryz.f173.name, by decide, Tryz.func173.trans (congrArg some (by kernel_rfl))⟩
  f31 := Tryz.func168.trans (congrArg some (by kernel_rfl))
  f32 := Tryz.func169.trans (congrArg some (by kernel_rfl))
  f33 := ⟨Tryz.f174.name, by decide, Tryz.func174.trans (congrArg some (by kernel_rfl))⟩
  f34 := ⟨Tryz.f175.name, by decide, Tryz.func175.trans (congrArg some (by kernel_rfl))⟩
  f35 := ⟨Tryz.f176.name, by decide, Tryz.func176.trans (congrArg some (by kernel_rfl))⟩
  f40 := ⟨Tryz.f178.name, by decide, Tryz.func178.trans (congrArg some (by kernel_rfl))⟩
  t0 := Tryz.underlying0
  a0 := Tryz.isAgg0
  z0 := Tryz.sizeOf0
  v0 := Tryz.zeroValue0
  t3 := Tryz.underlying3
  a3 := Tryz.isAgg3
  z3 := Tryz.sizeOf3
  v3 := Tryz.zeroValue3
  t4 := Tryz.underlying4
  a4 := Tryz.isAgg4
  z4 := Tryz.sizeOf4
  v4 := Tryz.zeroValue4
  t5 := Tryz.underlying5
  a5 := Tryz.isAgg5
  z5 := Tryz.sizeOf5
  v5 := Tryz.zeroValue5
  t9 := Tryz.underlying9
  a9 := Tryz.isAgg9
  z9 := Tryz.sizeOf9
  v9 := Tryz.zeroValue9
  t22 := Tryz.underlying29
  a22 := Tryz.isAgg29
  z22 := Tryz.sizeOf29
  v22 := Tryz.zeroValue29
  t23 := Tryz.underlying29
  a23 := Tryz.isAgg29
  z23 := Tryz.sizeOf29
  v23 := Tryz.zeroValue29
  t25 := Tryz.underlying3
  a25 := Tryz.isAgg3
  z25 := Tryz.sizeOf3
  v25 := Tryz.zeroValue3
  t32 := Tryz.underlying169
  a32 := Tryz.isAgg169
  z32 := Tryz.sizeOf169
  v32 := Tryz.zeroValue169
  t35 := Tryz.underlying181
  a35 := Tryz.isAgg181
  z35 := Tryz.sizeOf181
  v35 := Tryz.zeroValue181
  t36 := Tryz.underlying182
  a36 := Tryz.isAgg182
  z36 := Tryz.sizeOf182
  v36 := Tryz.zeroValue182
  t41 := Tryz.underlying142
  a41 := Tryz.isAgg142
  z41 := Tryz.sizeOf142
  v41 := Tryz.zeroValue142
  t44 := Tryz.underlying46
  a44 := Tryz.isAgg46
  z44 := Tryz.sizeOf46
  v44 := Tryz.zeroValue46
  t46 := Tryz.underlying189
  a46 := Tryz.isAgg189
  z46 := Tryz.sizeOf189
  v46 := Tryz.zeroValue189
  t53 := Tryz.underlying199
  a53 := Tryz.isAgg199
  z53 := Tryz.sizeOf199
  v53 := Tryz.zeroValue199
  t57 := Tryz.underlying203
  a57 := Tryz.isAgg203
  z57 := Tryz.sizeOf203
  v57 := Tryz.zeroValue203
  t63 := Tryz.underlying207
  a63 := Tryz.isAgg207
  z63 := Tryz.sizeOf207
  v63 := Tryz.zeroValue207
  t64 := Tryz.underlying60
  a64 := Tryz.isAgg60
  z64 := Tryz.sizeOf60
  v64 := Tryz.zeroValue60 }

open Go.RowKit Go.Maps Go.Sort
theorem lay_sortsI (m : Nat) : AnyZI.SortsIn Tryz.prog lay_sortedIF_ren Fence.wide m :=
  ⟨fun blk off cap ss W hH hblk hsz => callsIn_wide.2 (AnyM.slices_Sort_int lay_sortIF blk off cap ss W hH hblk hsz),
   fun p cap W => callsIn_wide.2 (AnyM.slices_Sort_int_none lay_sortIF p cap W)⟩
theorem lay_maps_KeysI (mb : Option Nat) (W : World) : CallsIn Fence.wide 5 Tryz.prog 118 #[.map mb] W fun e w' => e = .returned (.func (.func 136) #[] #[.pointer (some ⟨W.heap.size, 0, none⟩)]) ∧ w' = W.alloc (.cells #[.map mb] 96) :=
  AnyZI.keys_in lay_keysIF Fence.wide 5 trivial rfl mb W
set_option maxHeartbeats 1000000 in
theorem lay_slices_Sorted_keysI {H : Type} (b nn : Nat) (D0 : DataW H) (R : Value → Option (DataW H × List MemPlace)) (w : World) (hown : w.ownsMap Tryz.prog 3 R b nn D0) (hmax : Maps.size D0 ≤ maxLen) (hbytes : Maps.size D0 * 8 ≤ 140737488355328) :
    CallsIn Fence.wide 5 Tryz.prog 117 #[.func (.func 136) #[] #[.pointer (some ⟨w.heap.size, 0, none⟩)]] (w.alloc (.cells #[.map (some b)] 96)) fun e w' => ∃ (v : Value) (ss : List Int), e = .returned v ∧ ss.Perm (intKeys D0) ∧
      w'.ownsRow (w.alloc (.cells #[.map (some b)] 96)).heap.size 3 1 v ss.length ((ss.mergeSort (fun x y => decide (x ≤ y))).map encZ) ∧ (v = .slice none 0 0 ↔ ss = []) ∧ Below (w.alloc (.cells #[.map (some b)] 96)).heap.size (w.alloc (.cells #[.map (some b)] 96)) w' := by
  have hbl := hown.lt
  have hseq : SeqGives Fence.wide 2 Tryz.prog 136 #[.pointer (some ⟨w.heap.size, 0, none⟩)] encZ (fun ss => ss.Perm (intKeys D0)) (Maps.size D0) (w.alloc (.cells #[.map (some b)] 96)) :=
    AnyZI.keys_gives (ρ := lay_keysIF_ren) { lay_keysIF with } Fence.wide _ trivial rfl (by omega) w.heap.size b nn D0 _ (by simp) (by simp) (by
      obtain ⟨es, clock, hb, Ft, hs, hD⟩ := hown
      exact ⟨es, clock, (Below.heap_alloc _ _ b hbl).trans hb, Ft, hs, hD⟩)
  exact AnyZI.sorted_in lay_sortedIF Fence.wide 5 trivial trivial trivial trivial rfl (by omega) (lay_sortsI _) (enters_of Tryz.func135 (by kernel_rfl) rfl) 136 #[.pointer (some ⟨w.heap.size, 0, none⟩)] trivial (enters_of Tryz.func136 (by kernel_rfl) rfl) _ _ hmax hbytes _ hseq
end Go.Proofs.YtlflijhnlcdakaaGreatDoor

namespace Go.Proofs.YtlflijhnlcdakaaGreatDoor
open Go.Shelf
def lay_keysOF_ren : Go.Shelf.Ren := ⟨fun | 7 => 70 | 10 => 122 | n => n, fun | 23 => 95 | 26 => 9 | 3 => 32 | 28 => 106 | 0 => 0 | 27 => 105 | 33 => 109 | 4 => 4 | n => n, fun | n => n⟩
theorem lay_keysOF : Go.Proofs.SlLaysZ.n7 Tryz.prog lay_keysOF_ren := {
  mixed := by kernel_rfl
  f7 := ⟨Tryz.f70.name, by decide, Tryz.func70.trans (congrArg some (by kernel_rfl))⟩
  f10 := ⟨Tryz.f122.name, by decide, Tryz.func122.trans (congrArg some (by kernel_rfl))⟩
  t0 := Tryz.underlying0
  a0 := Tryz.isAgg0
  z0 := Tryz.sizeOf0
  v0 := Tryz.zeroValue0
  t4 := Tryz.underlying4
  a4 := Tryz.isAgg4
  z4 := Tryz.sizeOf4
  v4 := Tryz.zeroValue4
  t23 := Tryz.underlying95
  a23 := Tryz.isAgg95
  z23 := Tryz.sizeOf95
  v23 := Tryz.zeroValue95
  t26 := Tryz.underlying9
  a26 := Tryz.isAgg9
  z26 := Tryz.sizeOf9
  v26 := Tryz.zeroValue9
  t27 := Tryz.underlying105
  a27 := Tryz.isAgg105
  z27 := Tryz.sizeOf105
  v27 := Tryz.zeroValue105
  t28 := Tryz.underlying106
  a28 := Tryz.isAgg106
  z28 := Tryz.sizeOf106
  v28 := Tryz.zeroValue106
  t33 := Tryz.underlying109
  a33 := Tryz.isAgg109
  z33 := Tryz.sizeOf109
  v33 := Tryz.zeroValue109 }
def lay_sortedOF_ren : Go.Shelf.Ren := ⟨fun | 6 => 69 | 8 => 120 | 9 => 121 | 11 => 137 | 13 => 139 | 12 => 138 | 23 => 154 | 24 => 155 | 14 => 145 | 15 => 146 | 16 => 147 | 17 => 148 | 18 => 149 | 19 => 150 | 20 => 151 | 21 => 152 | 22 => 153 | 25 => 167 | 26 => 168 | 27 => 169 | 28 => 170 | 29 => 171 | 30 => 172 | 31 => 177 | n => n, fun | 26 => 9 | 28 => 106 | 24 => 35 | 0 => 0 | 3 => 3 | 37 => 169 | 48 => 46 | 50 => 189 | 4 => 4 | 40 => 182 | 39 => 181 | 45 => 142 | 5 => 5 | 9 => 9 | 51 => 199 | 55 => 203 | 57 => 207 | 58 => 60 | 33 => 109 | n => n, fun | n => n⟩
theorem lay_sortedOF : Go.Proofs.SlLaysZ.n6 Tryz.prog lay_sortedOF_ren := {
  mixed := by kernel_rfl
  f6 := ⟨Tryz.f69.name, by decide, Tryz.func69.trans (congrArg some (by kernel_rfl))⟩
  f8 := ⟨Tryz.f120.name, by decide, Tryz.func120.trans (congrArg some (by kernel_rfl))⟩
  f11 := ⟨Tryz.f137.name, by decide, Tryz.func137.trans (congrArg some (by kernel_rfl))⟩
  t0 := Tryz.underlying0
  a0 := Tryz.isAgg0
  z0 := Tryz.sizeOf0
  v0 := Tryz.zeroValue0
  t24 := Tryz.underlying35
  a24 := Tryz.isAgg35
  z24 := Tryz.sizeOf35
  v24 := Tryz.zeroValue35
  t26 := Tryz.underlying9
  a26 := Tryz.isAgg9
  z26 := Tryz.sizeOf9
  v26 := Tryz.zeroValue9
  t28 := Tryz.underlying106
  a28 := Tryz.isAgg106
  z28 := Tryz.sizeOf106
  v28 := Tryz.zeroValue106
  i26 := by kernel_rfl }
def lay_sortOSF_ren : Go.Shelf.Ren := ⟨fun | 6 => 121 | 8 => 139 | 9 => 138 | 19 => 154 | 20 => 155 | 21 => 145 | 22 => 146 | 23 => 147 | 24 => 148 | 25 => 149 | 26 => 150 | 27 => 151 | 28 => 152 | 29 => 153 | 36 => 167 | 31 => 168 | 32 => 169 | 37 => 170 | 38 => 171 | 39 => 172 | 41 => 177 | n => n, fun | 27 => 35 | 29 => 9 | 3 => 3 | 32 => 169 | 26 => 35 | 0 => 0 | 44 => 46 | 46 => 189 | 4 => 4 | 36 => 182 | 35 => 181 | 41 => 142 | 5 => 5 | 9 => 9 | 53 => 199 | 57 => 203 | 63 => 207 | 64 => 60 | n => n, fun | n => n⟩
theorem lay_sortOSF : Go.Proofs.SlLaysM.n6 Tryz.prog lay_sortOSF_ren := {
  mixed := by kernel_rfl
  f6 := ⟨Tryz.f121.name, by decide, Tryz.func121.trans (congrArg some (by kernel_rfl))⟩
  f8 := Tryz.func139.trans (congrArg some (by kernel_rfl))
  f9 := ⟨Tryz.f138.name, by decide, Tryz.func138.trans (congrArg some (by kernel_rfl))⟩
  f19 := Tryz.func154.trans (congrArg some (by kernel_rfl))
  f20 := Tryz.func155.trans (congrArg some (by kernel_rfl))
  f21 := ⟨Tryz.f145.name, by decide, Tryz.func145.trans (congrArg some (by kernel_rfl))⟩
  f22 := ⟨Tryz.f146.name, by decide, Tryz.func146.trans (congrArg some (by kernel_rfl))⟩
  f23 := ⟨Tryz.f147.name, by decide, Tryz.func147.trans (congrArg some (by kernel_rfl))⟩
  f24 := ⟨Tryz.f148.name, by decide, Tryz.func148.trans (congrArg some (by kernel_rfl))⟩
  f25 := ⟨Tryz.f149.name, by decide, Tryz.func149.trans (congrArg some (by kernel_rfl))⟩
  f26 := ⟨Tryz.f150.name, by decide, Tryz.func150.trans (congrArg some (by kernel_rfl))⟩
  f27 := ⟨Tryz.f151.name, by decide, Tryz.func151.trans (congrArg some (by kernel_rfl))⟩
  f28 := ⟨Tryz.f152.name, by decide, Tryz.func152.trans (congrArg some (by kernel_rfl))⟩
  f29 := ⟨Tryz.f153.name, by decide, Tryz.func153.trans (congrArg some (by kernel_rfl))⟩
  f31 := Tryz.func168.trans (congrArg some (by kernel_rfl))
  f32 := Tryz.func169.trans (congrArg some (by kernel_rfl))
  f36 := ⟨Tryz.f167.name, by decide, Tryz.func167.trans (congrArg some (by kernel_rfl))⟩
  f37 := ⟨Tryz.f170.name, by decide, Tryz.func170.trans (congrArg some (by kernel_rfl))⟩
  f38 := ⟨Tryz.f171.name, by decide, Tryz.func171.trans (congrArg some (by kernel_rfl))⟩
  f39 := ⟨Tryz.f172.name, by decide, Tryz.func172.trans (congrArg some (by kernel_rfl))⟩
  f41 := ⟨Tryz.f177.name, by decide, Tryz.func177.trans (congrArg some (by kernel_rfl))⟩
  t0 := Tryz.underlying0
  a0 := Tryz.isAgg0
  z0 := Tryz.sizeOf0
  v0 := Tryz.zeroValue0
  t3 := Tryz.underlying3
  a3 := Tryz.isAgg3
  z3 := Tryz.sizeOf3
  v3 := Tryz.zeroValue3
  t4 := Tryz.underlying4
  a4 := Tryz.isAgg4
  z4 := Tryz.sizeOf4
  v4 := Tryz.zeroValue4
  t5 := Tryz.underlying5
  a5 := Tryz.isAgg5
  z5 := Tryz.sizeOf5
  v5 := Tryz.zeroValue5
  t9 := Tryz.underlying9
  a9 := Tryz.isAgg9
  z9 := Tryz.sizeOf9
  v9 := Tryz.zeroValue9
  t26 := Tryz.underlying35
  a26 := Tryz.isAgg35
  z26 := Tryz.sizeOf35
  v26 := Tryz.zeroValue35
  t27 := Tryz.underlying35
  a27 := Tryz.isAgg35
  z27 := Tryz.sizeOf35
  v27 := Tryz.zeroValue35
  t29 := Tryz.underlying9
  a29 := Tryz.isAgg9
  z29 := Tryz.sizeOf9
  v29 := Tryz.zeroValue9
  t32 := Tryz.underlying169
  a32 := Tryz.isAgg169
  z32 := Tryz.sizeOf169
  v32 := Tryz.zeroValue169
  t35 := Tryz.underlying181
  a35 := Tryz.isAgg181
  z35 := Tryz.sizeOf181
  v35 := Tryz.zeroValue181
  t36 := Tryz.underlying182
  a36 := Tryz.isAgg182
  z36 := Tryz.sizeOf182
  v36 := Tryz.zeroValue182
  t41 := Tryz.underlying142
  a41 := Tryz.isAgg142
  z41 := Tryz.sizeOf142
  v41 := Tryz.zeroValue142
  t44 := Tryz.underlying46
  a44 := Tryz.isAgg46
  z44 := Tryz.sizeOf46
  v44 := Tryz.zeroValue46
  t46 := Tryz.underlying189
  a46 := Tryz.isAgg189
  z46 := Tryz.sizeOf189
  v46 := Tryz.zeroValue189
  t53 := Tryz.underlying199
  a53 := Tryz.isAgg199
  z53 := Tryz.sizeOf199
  v53 := Tryz.zeroValue199
  t57 := Tryz.underlying203
  a57 := Tryz.isAgg203
  z57 := Tryz.sizeOf203
  v57 := Tryz.zeroValue203
  t63 := Tryz.underlying207
  a63 := Tryz.isAgg207
  z63 := Tryz.sizeOf207
  v63 := Tryz.zeroValue207
  t64 := Tryz.underlying60
  a64 := Tryz.isAgg60
  z64 := Tryz.sizeOf60
  v64 := Tryz.zeroValue60 }

open Go.RowKit Go.Maps Go.Sort
theorem lay_sortsO (m : Nat) : AnyZ.SortsIn Tryz.prog lay_sortedOF_ren Fence.wide m :=
  ⟨fun blk off cap ss W hH hblk hsz => callsIn_wide.2 (AnyM.slices_Sort_string lay_sortOSF blk off cap ss W hH hblk hsz),
   fun p cap W => callsIn_wide.2 (AnyM.slices_Sort_string_none lay_sortOSF p cap W)⟩
theorem lay_maps_KeysO (mb : Option Nat) (W : World) : CallsIn Fence.wide 5 Tryz.prog 70 #[.map mb] W fun e w' => e = .returned (.func (.func 122) #[] #[.pointer (some ⟨W.heap.size, 0, none⟩)]) ∧ w' = W.alloc (.cells #[.map mb] 95) :=
  AnyZ.keys_in lay_keysOF Fence.wide 5 trivial rfl mb W
set_option maxHeartbeats 1000000 in
theorem lay_slices_Sorted_keysO {H : Type} (b nn : Nat) (D0 : DataW H) (R : Value → Option (DataW H × List MemPlace)) (w : World) (hown : w.ownsMap Tryz.prog 9 R b nn D0) (hmax : Maps.size D0 ≤ maxLen) (hbytes : Maps.size D0 * 16 ≤ 140737488355328) :
    CallsIn Fence.wide 5 Tryz.prog 69 #[.func (.func 122) #[] #[.pointer (some ⟨w.heap.size, 0, none⟩)]] (w.alloc (.cells #[.map (some b)] 95)) fun e w' => ∃ (v : Value) (ss : List (List UInt8)), e = .returned v ∧ ss.Perm (strKeys D0) ∧
      w'.ownsRow (w.alloc (.cells #[.map (some b)] 95)).heap.size 9 1 v ss.length ((ss.mergeSort (fun x y => decide (x ≤ y))).map encStr) ∧ (v = .slice none 0 0 ↔ ss = []) ∧ Below (w.alloc (.cells #[.map (some b)] 95)).heap.size (w.alloc (.cells #[.map (some b)] 95)) w' := by
  have hbl := hown.lt
  have hseq : SeqGives Fence.wide 2 Tryz.prog 122 #[.pointer (some ⟨w.heap.size, 0, none⟩)] encStr (fun ss => ss.Perm (strKeys D0)) (Maps.size D0) (w.alloc (.cells #[.map (some b)] 95)) :=
    AnyZ.keys_gives (ρ := lay_keysOF_ren) { lay_keysOF with } Fence.wide _ trivial rfl (by omega) w.heap.size b nn D0 _ (by simp) (by simp) (by
      obtain ⟨es, clock, hb, Ft, hs, hD⟩ := hown
      exact ⟨es, clock, (Below.heap_alloc _ _ b hbl).trans hb, Ft, hs, hD⟩)
  exact AnyZ.sorted_in lay_sortedOF Fence.wide 5 trivial trivial trivial trivial rfl (by omega) (lay_sortsO _) (enters_of Tryz.func121 (by kernel_rfl) rfl) 122 #[.pointer (some ⟨w.heap.size, 0, none⟩)] trivial (enters_of Tryz.func122 (by kernel_rfl) rfl) _ _ hmax hbytes _ hseq
end Go.Proofs.YtlflijhnlcdakaaGreatDoor

namespace Go.Proofs.YtlflijhnlcdakaaGreatDoor
open Go.RowKit Go.Sort

def txs (l : List (List UInt8)) : List Value := l.map encStr
theorem txs_len (l : List (List UInt8)) : (txs l).length = l.length := by simp [txs]
theorem txs_one (l : List (List UInt8)) : ∀ u ∈ txs l, u.oneCell' = true := by
  intro u hu
  obtain ⟨x, _, rfl⟩ := List.mem_map.1 hu
  rfl
theorem text_info : (Tryz.prog.info? 9).map (fun i => (i.zero, i.size, i.bytes)) = some (some (.string ⟨#[]⟩), 1, 16) := by kernel_rfl

/-- A slice that reads as texts: nil, empty or not. -/
def ReadsT (w : World) (A : Option Addr) (l : List (List UInt8)) : Prop :=
  l = [] ∨ ∃ b off, A = some ⟨b, off, none⟩ ∧ b < w.heap.size ∧ ∀ k, k < l.length → w.cell? ⟨b, off + k, none⟩ = some (encStr (l.getD k []))
theorem ReadsT.drewN {w : World} {A : Option Addr} {l : List (List UInt8)} (h : ReadsT w A l) (n : Nat) : ReadsT (w.drewN n) A l := h
theorem ReadsT.below {w w' : World} {C : Nat} {A : Option Addr} {l : List (List UInt8)} (h : ReadsT w A l) (hb : Below C w w') (hC : w.heap.size ≤ C) : ReadsT w' A l := by
  rcases h with h | ⟨b, off, e, hlt, hc⟩
  · exact .inl h
  · exact .inr ⟨b, off, e, by have := hb.size; omega, fun k hk => (hb.cell (p := ⟨b, off + k, none⟩) (by show b < C; omega)).trans (hc k hk)⟩
/-- Of a slice that reads as texts, a part. -/
theorem ReadsT.get {w : World} {A : Option Addr} {l : List (List UInt8)} (h : ReadsT w A l) (k : Nat) (hk : k < l.length) : ∃ b off, A = some ⟨b, off, none⟩ ∧ w.cell? ⟨b, off + k, none⟩ = some (encStr (l.getD k [])) := by
  rcases h with rfl | ⟨b, off, e, _, hc⟩
  · simp at hk
  · exact ⟨b, off, e, hc k hk⟩
theorem ReadsT.take {w : World} {A : Option Addr} {l : List (List UInt8)} (h : ReadsT w A l) (k : Nat) : ReadsT w A (l.take k) := by
  rcases h with rfl | ⟨b, off, e, hlt, hc⟩
  · exact .inl (by simp)
  · refine .inr ⟨b, off, e, hlt, fun j hj => ?_⟩
    rw [List.length_take] at hj
    rw [hc j (by omega)]
    simp [List.getD, show j < k by omega]
theorem ReadsT.drop {w : World} {b off k : Nat} {l : List (List UInt8)} (h : ReadsT w (some ⟨b, off, none⟩) l) : ReadsT w (some ⟨b, off + k, none⟩) (l.drop k) := by
  rcases h with rfl | ⟨b', off', e, hlt, hc⟩
  · exact .inl (by simp)
  · injection e with e; injection e with e1 e2 _; subst e1 e2
    refine .inr ⟨b, off + k, rfl, hlt, fun j hj => ?_⟩
    rw [List.length_drop] at hj
    rw [show off + k + j = off + (k + j) by omega, hc (k + j) (by omega)]
    simp [List.getD, List.getElem?_drop]
theorem ReadsT.news {w : World} {ad : Addr} {l : List (List UInt8)} (h : ReadsT w (some ad) l) : ∀ j u, (txs l)[j]? = some u → w.cell? (ad.add j) = some u := by
  intro j u hu
  rcases h with rfl | ⟨b, off, e, hb, hc⟩
  · simp [txs] at hu
  · obtain rfl := Option.some.inj e
    have hj : j < l.length := by
      have := (List.getElem?_eq_some_iff.1 hu).1
      rwa [txs_len] at this
    rw [show (⟨b, off, none⟩ : Addr).add j = ⟨b, off + j, none⟩ from by rw [Addr.add_lit]]
    rw [hc j hj]
    simpa [txs, hj, List.getD] using hu
/-- A new block whose cells are texts reads as them. -/
theorem ReadsT.made (w : World) (l : List (List UInt8)) (cs : Array Value) (e : TypeId) (fr : Nat × Nat) (g : Nat) (hg : g = w.heap.size) (hc : (txs l).toArray = cs) : ReadsT (w.alloc (.cells cs e fr)) (some ⟨g, 0, none⟩) l := by
  subst hg hc
  refine .inr ⟨_, _, rfl, by simp, fun k hk => ?_⟩
  rw [World.cell?_alloc_mark]
  simp [txs, hk, List.getD]

/-- A slice value that the call owns: its texts. -/
def OwnT (w : World) (base : Nat) (v : Value) (l : List (List UInt8)) : Prop := w.ownsRow base 9 1 v l.length (txs l)
theorem OwnT.nil (w : World) (base : Nat) : OwnT w base (.slice none 0 0) [] := World.ownsRow_nil w base _ 1
theorem OwnT.alloc {w : World} {base : Nat} {v : Value} {l : List (List UInt8)} (h : OwnT w base v l) (o : Obj) : OwnT (w.alloc o) base v l := World.ownsRow.alloc h o
theorem OwnT.drewN {w : World} {base : Nat} {v : Value} {l : List (List UInt8)} (h : OwnT w base v l) (n : Nat) : OwnT (w.drewN n) base v l := h
theorem OwnT.lt {w : World} {base : Nat} {v : Value} {l : List (List UInt8)} (h : OwnT w base v l) : ∀ k, v.ownBlock = some k → base ≤ k ∧ k < w.heap.size := World.ownsRow.lt h
theorem OwnT.below {w w' : World} {base C : Nat} {v : Value} {l : List (List UInt8)} (h : OwnT w base v l) (hb : Below C w w') (hC : w.heap.size ≤ C) : OwnT w' base v l := by
  obtain ⟨h1, h2⟩ := h
  refine ⟨h1, ?_⟩
  rcases h2 with h2 | ⟨g, cap, cur, hv, hg, hh, r⟩
  · exact .inl h2
  · have hlt : g < w.heap.size := by
      rcases Nat.lt_or_ge g w.heap.size with h | h
      · exact h
      · rw [Array.getElem?_eq_none h] at hh; cases hh
    exact .inr ⟨g, cap, cur, hv, hg, (hb.block g (by omega)).trans hh, r⟩
theorem OwnT.mono {w : World} {base base' : Nat} {v : Value} {l : List (List UInt8)} (h : OwnT w base v l) (hb : base' ≤ base) : OwnT w base' v l := by
  obtain ⟨h1, h2⟩ := h
  refine ⟨h1, ?_⟩
  rcases h2 with h2 | ⟨g, cap, cur, hv, hg, r⟩
  · exact .inl h2
  · exact .inr ⟨g, cap, cur, hv, by omega, r⟩
/-- What is owned is a slice that reads as its texts. -/
theorem OwnT.reads {w : World} {base : Nat} {v : Value} {l : List (List UInt8)} (h : OwnT w base v l) : ∃ A c, v = .slice A l.length c ∧ ReadsT w A l ∧ (A = none → l = [] ∧ c = 0) ∧ l.length ≤ c ∧ c ≤ 9223372036854775807 := by
  obtain ⟨_, h2⟩ := h
  rcases h2 with ⟨rfl, h0⟩ | ⟨g, cap, cur, rfl, hg, hh, hn, hm, hs, ht⟩
  · obtain rfl := List.eq_nil_of_length_eq_zero h0
    exact ⟨none, 0, rfl, .inl rfl, fun _ => ⟨rfl, rfl⟩, by simp, by omega⟩
  · refine ⟨_, _, rfl, .inr ⟨g, 0, rfl, ?_, fun k hk => ?_⟩, (fun e => by cases e), hn, by simp only [maxLen] at hm; omega⟩
    · rcases Nat.lt_or_ge g w.heap.size with h | h
      · exact h
      · rw [Array.getElem?_eq_none h] at hh; cases hh
    · have e : cur.toList[k]? = some (encStr l[k]) := by
        have e2 : (cur.toList.take (l.length * 1))[k]? = some (encStr l[k]) := by rw [ht]; simp [txs, hk]
        rw [List.getElem?_take] at e2
        rwa [if_pos (by omega)] at e2
      have e3 : cur[k]? = some (encStr l[k]) := by simpa using e
      simp only [World.cell?, hh, Nat.zero_add]
      rw [e3]
      simp [List.getD, hk]
section
variable {w : World} {ops : Array Oper} {rest : List Oper} {o : Oper} {a : Act} {Q : Exit → Act → World → Prop}
/-- append(s, x...), s the call's own texts, x whatever reads as texts. -/
theorem wpList_appT (hgd : o.guard = none) (s x : Operand) (ho : o.op = .call { callee := .builtin .append, args := #[s, x], argTypes := #[35, 35] })
    (base : Nat) (v : Value) (l m : List (List UInt8)) (hs : a.eval s = v) (hown : OwnT w base v l) (A : Option Addr) (n c : Nat) (hx : a.eval x = .slice A n c) (hn : m.length = n) (hr : ReadsT w A m)
    (hlen : l.length + n ≤ 1073741824) (hbase : base ≤ w.heap.size)
    (h : ∀ v' w', OwnT w' base v' (l ++ m) → w.grownBy w' v.ownBlock → (v'.ownBlock = v.ownBlock ∨ v'.ownBlock = some w.heap.size) → wpList Tryz.prog ops Q rest (a.put o.dst v') w') : wpList Tryz.prog ops Q (o :: rest) a w := by
  subst hn
  obtain ⟨i, hi, hz, hs1, hby⟩ := info_parts text_info
  refine wpList_plain hgd fun K hK => ?_
  have key : ∃ v' w', (Builtin.append_ #[35, 35] o.type #[v, .slice A m.length c]).run Tryz.prog w = .ok v' w' ∧ OwnT w' base v' (l ++ m) ∧ w.grownBy w' v.ownBlock ∧ (v'.ownBlock = v.ownBlock ∨ v'.ownBlock = some w.heap.size) := by
    cases A with
    | none =>
      have h0 : m = [] := by
        rcases hr with h | ⟨_, _, h, _⟩
        · exact h
        · cases h
      subst h0
      refine ⟨v, w, ?_, by simpa using hown, World.grownBy.refl w _, .inl rfl⟩
      have u := Tryz.underlying35
      rcases hown.2 with ⟨rfl, _⟩ | ⟨g, cap, cur, rfl, _, _, hnc, _⟩
      · simp [Builtin.append_, run_underlying u, sizeOf, typeInfo, hi, Builtin.lenOf, Builtin.firstCells]
      · simp [Builtin.append_, run_underlying u, sizeOf, typeInfo, hi, Builtin.lenOf, Builtin.firstCells, hnc, storeCells]
    | some ad =>
      obtain ⟨v', w', hrun, h2, h3, _, h5⟩ := run_append_own_at (P := Tryz.prog) w base 35 o.type 9 i _ 1 16 Tryz.underlying35 hi hz hs1 hby rfl (by omega) v l.length (txs l) hown ad m.length c (txs m) (by rw [txs_len]; omega) hr.news (txs_one m)
        (by simp only [maxLen]; omega) (by omega) hbase
      refine ⟨v', w', hrun, ?_, h3, h5⟩
      unfold OwnT
      rw [List.length_append, show txs (l ++ m) = txs l ++ txs m from by simp [txs]]
      exact h2
  obtain ⟨v', w', hrun, h2, h3, h4⟩ := key
  unfold Oper.wp execOp
  simp only [ho, resolve, invoke, builtin, Sem.run_bind, Sem.run_pure, Result.andThen_ok, List.map_toArray, List.map_cons, List.map_nil, hs, hx, hrun]
  exact hK _ _ (h v' w' h2 h3 h4)

/-- make([]string, 0, c). -/
theorem wpList_mkT (hgd : o.guard = none) (s x : Operand) (ho : o.op = Op.makeSlice 35 s x) (c : Nat) (N C : Int) (hs : a.eval s = .int .i64 N) (hx : a.eval x = .int .i64 C) (hN : N = 0) (hC : C = c) (hc : c ≤ 1073741824)
    (h : ∀ w', OwnT w' w.heap.size (.slice (some ⟨w.heap.size, 0, none⟩) 0 c) [] → Below w.heap.size w w' → w'.heap.size = w.heap.size + 1 → wpList Tryz.prog ops Q rest (a.put o.dst (.slice (some ⟨w.heap.size, 0, none⟩) 0 c)) w') : wpList Tryz.prog ops Q (o :: rest) a w := by
  obtain ⟨i, hi, hz, hs1, hby⟩ := info_parts text_info
  refine wpList_plain hgd fun K hK => ?_
  have hrun := run_make (P := Tryz.prog) w 35 9 i _ Tryz.underlying35 hi hz .i64 .i64 0 c (by omega) (by omega) (by rw [hby]; omega) (by omega)
  unfold Oper.wp execOp
  subst hN hC
  simp only [ho, Sem.run_bind, Sem.run_pure, Result.andThen_ok, hs, hx, hrun, Int.toNat_natCast]
  refine hK _ _ (h _ ?_ ((Below.refl _ _).alloc (Nat.le_refl _) _) (by simp))
  refine ⟨by simp [txs], .inr ⟨w.heap.size, c, _, by simp, Nat.le_refl _, heap_alloc_new _ _, by simp, by simp only [maxLen]; omega, by simp [size_madeCells, hs1], by simp [txs]⟩⟩
end

/-- Where it owns them, a new row grows. -/
theorem OwnT.kept {w w' : World} {base : Nat} {v : Value} {l : List (List UInt8)} {row : Option Nat} (h : OwnT w base v l) (hg : w.grownBy w' row) (hne : v.ownBlock = none ∨ v.ownBlock ≠ row) : OwnT w' base v l := World.ownsRow.kept h hg hne

set_option maxRecDepth 100000 in
theorem sameTexts_any (A A' : Option Addr) (cap cap' n n' : Nat) (l m : List (List UInt8)) (w : World) (hn : l.length = n) (hn' : m.length = n') (hl : n ≤ 9223372036854775807) (hl' : n' ≤ 9223372036854775807) (hr : ReadsT w A l) (hr' : ReadsT w A' m) :
    Calls Tryz.prog 19 #[.slice A n cap, .slice A' n' cap'] w fun e w' => e = .returned (.bool (decide (l = m))) ∧ ∃ k, w' = w.drewN k := by
  by_cases hlen : n = n'
  · subst hlen
    have HR := hide hr
    have HR' := hide hr'
    have HN := hide hn
    have HN' := hide hn'
    clear hr hr' hn hn'
    go_enter Tryz.func19, Tryz.ntmps19
    go_wp2
    go_loopw [5] (fun i wr => ∃ k : Nat, k ≤ n ∧ i = .int .i64 k ∧ l.take k = m.take k ∧ ∃ q, wr = w.drewN q) (fun i _ => n - (intOf i).toNat)
    case atStart => exact ⟨0, Nat.zero_le _, rfl, by simp, 0, rfl⟩
    case round =>
      obtain ⟨k, hk, rfl, htk, q, rfl⟩ := hrel
      have HTK := hide htk
      clear htk
      by_cases hlt : k < n
      · have hkl : k < l.length := by rw [HN.out]; exact hlt
        have hkm : k < m.length := by rw [HN'.out]; exact hlt
        obtain ⟨b, off, rfl, hcell⟩ := HR.out.get k hkl
        obtain ⟨b', off', rfl, hcell'⟩ := HR'.out.get k hkm
        have HL : Hid (l.take (k + 1) = l.take k ++ [l.getD k []]) := by
          show _ = _; rw [List.take_succ_eq_append_getElem hkl]; simp [List.getD, hkl]
        have HM : Hid (m.take (k + 1) = m.take k ++ [m.getD k []]) := by
          show _ = _; rw [List.take_succ_eq_append_getElem hkm]; simp [List.getD, hkm]
        clear hkl hkm
        generalize l.getD k [] = x at *
        generalize m.getD k [] = y at *
        by_cases hxy : x = y
        · subst hxy
          have hb1 : (x == x) = true := beq_self_eq_true x
          go_wp2
          go_quiet (fail)
          go_wp2
          go_roundw
          case rel => exact ⟨k + 1, by omega, by go_num, by rw [HL.out, HM.out, HTK.out], _, rfl⟩
          case measure => simp [intOf]; omega
        · have hb1 : (x == y) = false := beq_eq_false_iff_ne.2 hxy
          have HD : Hid (decide (l = m) = false) := by
            show _ = _
            rw [decide_eq_false_iff_not]
            intro e
            have h2 := HM.out
            rw [← e, HL.out, e] at h2
            have h3 := List.append_cancel_left h2
            simp at h3
            exact hxy h3
          clear hxy
          go_wp2
          go_quiet (fail)
          go_wp2
          go_ret
          exact ⟨by rw [HD.out]; rfl, _, rfl⟩
      · have HE : Hid (decide (l = m) = true) := by
          show _ = _
          rw [decide_eq_true_iff]
          have h1 := HTK.out
          have hkn : k = n := by omega
          rw [hkn, ← HN.out, List.take_length, HN.out, ← HN'.out, List.take_length] at h1
          exact h1
        go_wp2
        go_ret
        exact ⟨by rw [HE.out]; rfl, q, rfl⟩
  · have HD : Hid (decide (l = m) = false) := by
      show _ = _
      rw [decide_eq_false_iff_not]
      intro e; apply hlen; rw [← hn, ← hn', e]
    have hne : ((n : Int) == (n' : Int)) = false := by rw [beq_eq_false_iff_ne]; omega
    have hne2 : ((n : Int) != (n' : Int)) = true := by rw [bne_iff_ne]; omega
    clear hr hr' hn hn' hlen
    go_enter Tryz.func19, Tryz.ntmps19
    go_wp2
    go_ret
    exact ⟨by rw [HD.out]; rfl, 0, rfl⟩
end Go.Proofs.YtlflijhnlcdakaaGreatDoor

namespace Go.Proofs.YtlflijhnlcdakaaGreatDoor.Nm

/-- A digit's byte. -/
def dc (d : Nat) : UInt8 := UInt8.ofNat (48 + d % 10)
theorem dc_toNat (d : Nat) : (dc d).toNat = 48 + d % 10 := by
  unfold dc
  rw [UInt8.toNat_ofNat']
  omega
theorem dc_lt (a b : Nat) : dc a < dc b ↔ a % 10 < b % 10 := by
  rw [UInt8.lt_iff_toNat_lt, dc_toNat, dc_toNat]
  omega
theorem dc_inj (a b : Nat) (h : dc a = dc b) : a % 10 = b % 10 := by
  have := congrArg UInt8.toNat h
  rw [dc_toNat, dc_toNat] at this
  omega
/-- A number in so many digits. -/
def dgs : Nat → Nat → List UInt8
  | 0, _ => []
  | k + 1, u => dgs k (u / 10) ++ [dc u]
theorem dgs_length : ∀ (k u : Nat), (dgs k u).length = k
  | 0, _ => rfl
  | k + 1, u => by simp [dgs, dgs_length k]
theorem dgs_front : ∀ (k u : Nat), dgs (k + 1) u = dc (u / 10 ^ k) :: dgs k u
  | 0, u => by simp [dgs]
  | k + 1, u => by
    show dgs (k + 1) (u / 10) ++ [dc u] = _
    rw [dgs_front k (u / 10), Nat.div_div_eq_div_mul, ← Nat.pow_succ']
    rfl
theorem dgs_zero : ∀ k : Nat, dgs k 0 = List.replicate k 48
  | 0 => rfl
  | k + 1 => by
    show dgs k (0 / 10) ++ [dc 0] = _
    rw [Nat.zero_div, dgs_zero k, List.replicate_succ']
    rfl
theorem dgs_small {k u : Nat} (h : u < 10) : dgs (k + 1) u = List.replicate k 48 ++ Lib.decDigits u := by
  show dgs k (u / 10) ++ [dc u] = _
  rw [Nat.div_eq_of_lt h, dgs_zero, Lib.decDigits_one h]
  unfold dc
  rw [Nat.mod_eq_of_lt h]
theorem decDigits_big {u : Nat} (h : ¬ u < 10) : Lib.decDigits u = Lib.decDigits (u / 10) ++ [dc u] := by
  rw [Lib.decDigits, dif_neg h]; rfl
/-- The numeral, filled up with noughts. -/
theorem dgs_pad : ∀ (k u : Nat), u < 10 ^ (k + 1) → (Lib.decDigits u).length ≤ k + 1 ∧ List.replicate (k + 1 - (Lib.decDigits u).length) 48 ++ Lib.decDigits u = dgs (k + 1) u
  | 0, u, h => by
    have h1 : u < 10 := by simpa using h
    rw [dgs_small h1, Lib.decDigits_one h1]
    simp
  | k + 1, u, h => by
    by_cases h1 : u < 10
    · rw [dgs_small h1, Lib.decDigits_one h1]
      simp
    · have h2 : u / 10 < 10 ^ (k + 1) := by rw [Nat.pow_succ] at h; omega
      obtain ⟨l1, l2⟩ := dgs_pad k (u / 10) h2
      rw [decDigits_big h1]
      refine ⟨by simp; omega, ?_⟩
      rw [List.length_append, ← List.append_assoc]
      show _ = dgs (k + 1) (u / 10) ++ [dc u]
      rw [← l2]
      simp
/-- How a text of digits is read on. -/
def val (acc : Nat) (l : List UInt8) : Nat := l.foldl (fun a c => a * 10 + (c.toNat - 48)) acc
def digit (c : UInt8) : Prop := 48 ≤ c.toNat ∧ c.toNat ≤ 57
theorem dc_digit (d : Nat) : digit (dc d) := by unfold digit; rw [dc_toNat]; omega
theorem dgs_digit : ∀ (k u : Nat), ∀ c ∈ dgs k u, digit c
  | 0, _, c, h => by simp [dgs] at h
  | k + 1, u, c, h => by
    rcases List.mem_append.1 h with h | h
    · exact dgs_digit k _ c h
    · rw [List.mem_singleton.1 h]; exact dc_digit u
theorem val_snoc (acc : Nat) (l : List UInt8) (c : UInt8) : val acc (l ++ [c]) = val acc l * 10 + (c.toNat - 48) := by simp [val]
theorem val_dgs : ∀ (k u : Nat), u < 10 ^ k → val 0 (dgs k u) = u
  | 0, u, h => by simp [dgs, val] at *; omega
  | k + 1, u, h => by
    show val 0 (dgs k (u / 10) ++ [dc u]) = u
    rw [val_snoc, val_dgs k (u / 10) (by rw [Nat.pow_succ] at h; omega), dc_toNat]
    omega
theorem val_lt : ∀ (l : List UInt8) (acc : Nat), (∀ c ∈ l, digit c) → val acc l < (acc + 1) * 10 ^ l.length
  | [], acc, _ => by simp [val]
  | c :: l, acc, h => by
    have hc := h c (List.mem_cons_self ..)
    have hi := val_lt l (acc * 10 + (c.toNat - 48)) fun x hx => h x (List.mem_cons_of_mem _ hx)
    unfold digit at hc
    have e : val acc (c :: l) = val (acc * 10 + (c.toNat - 48)) l := rfl
    rw [e]
    refine Nat.lt_of_lt_of_le hi ?_
    rw [List.length_cons, Nat.pow_succ', ← Nat.mul_assoc]
    exact Nat.mul_le_mul_right _ (by omega)
theorem dgs_val : ∀ (k : Nat) (l : List UInt8), l.length = k → (∀ c ∈ l, digit c) → dgs k (val 0 l) = l
  | 0, l, hl, _ => by rw [List.length_eq_zero_iff.1 hl]; rfl
  | k + 1, l, hl, h => by
    have hne : l ≠ [] := fun e => by rw [e] at hl; simp at hl
    obtain ⟨a, c, rfl⟩ : ∃ a c, l = a ++ [c] := ⟨l.dropLast, l.getLast hne, (List.dropLast_concat_getLast hne).symm⟩
    have ih := dgs_val k a (by simpa using hl) fun x hx => h x (List.mem_append_left _ hx)
    have hc : digit c := h c (List.mem_append_right _ (List.mem_singleton.2 rfl))
    unfold digit at hc
    show dgs k (val 0 (a ++ [c]) / 10) ++ [dc (val 0 (a ++ [c]))] = _
    rw [val_snoc, show (val 0 a * 10 + (c.toNat - 48)) / 10 = val 0 a by omega, ih]
    congr 2
    apply UInt8.toNat_inj.1
    rw [dc_toNat]
    omega
theorem dgs_mod : ∀ k u : Nat, dgs k (u % 10 ^ k) = dgs k u
  | 0, _ => rfl
  | k + 1, u => by
    show dgs k (u % 10 ^ (k + 1) / 10) ++ [dc (u % 10 ^ (k + 1))] = dgs k (u / 10) ++ [dc u]
    have h1 : u % 10 ^ (k + 1) / 10 = u / 10 % 10 ^ k := by rw [Nat.pow_succ', Nat.mod_mul_right_div_self]
    have h2 : dc (u % 10 ^ (k + 1)) = dc u := by
      apply UInt8.toNat_inj.1
      rw [dc_toNat, dc_toNat, Nat.pow_succ', Nat.mod_mul_right_mod]
    rw [h1, h2, dgs_mod k]
theorem dgs_lt : ∀ k u v : Nat, u < 10 ^ k → v < 10 ^ k → (dgs k u < dgs k v ↔ u < v)
  | 0, u, v, hu, hv => by
    have : u = 0 := by simpa using hu
    have : v = 0 := by simpa using hv
    subst_vars
    simp [dgs]
  | k + 1, u, v, hu, hv => by
    have hp : 0 < 10 ^ k := Nat.pow_pos (by decide)
    have hq : u / 10 ^ k < 10 ∧ v / 10 ^ k < 10 := by rw [Nat.pow_succ] at hu hv; exact ⟨Nat.div_lt_of_lt_mul hu, Nat.div_lt_of_lt_mul hv⟩
    rw [dgs_front, dgs_front, List.cons_lt_cons_iff, dc_lt, ← dgs_mod k u, ← dgs_mod k v, dgs_lt k _ _ (Nat.mod_lt _ hp) (Nat.mod_lt _ hp), Nat.mod_eq_of_lt hq.1, Nat.mod_eq_of_lt hq.2]
    have e1 := Nat.div_add_mod u (10 ^ k)
    have e2 := Nat.div_add_mod v (10 ^ k)
    have m1 := Nat.mod_lt u hp
    have m2 := Nat.mod_lt v hp
    generalize 10 ^ k = p at *
    generalize u / p = a at *
    generalize v / p = b at *
    generalize u % p = c at *
    generalize v % p = d at *
    have hm : ∀ x y : Nat, x < y → p * x + p ≤ p * y := fun x y h => by have := Nat.mul_le_mul_left p (Nat.succ_le_of_lt h); rw [Nat.mul_succ] at this; exact this
    constructor
    · rintro (h | ⟨h1, h2⟩)
      · have := hm a b h; omega
      · have h3 := dc_inj a b h1
        rw [Nat.mod_eq_of_lt hq.1, Nat.mod_eq_of_lt hq.2] at h3
        subst h3; omega
    · intro h
      rcases Nat.lt_trichotomy a b with h3 | h3 | h3
      · exact .inl h3
      · subst h3; exact .inr ⟨rfl, by omega⟩
      · have := hm b a h3; omega
theorem dgs_inj (k u v : Nat) (hu : u < 10 ^ k) (hv : v < 10 ^ k) (h : dgs k u = dgs k v) : u = v := by rw [← val_dgs k u hu, h, val_dgs k v hv]

theorem parseM_digits : ∀ (l : List UInt8) (acc : Nat), (∀ c ∈ l, digit c) → (acc + 1) * 10 ^ l.length ≤ 1000000000000000000 → Lib.parseUintM 18446744073709551615 acc l = .ok (val acc l)
  | [], _, _, _ => rfl
  | c :: l, acc, h, hb => by
    have hc := h c (List.mem_cons_self ..)
    have h10 : 1 ≤ 10 ^ l.length := Nat.pow_pos (by decide)
    rw [List.length_cons, Nat.pow_succ', ← Nat.mul_assoc] at hb
    have hacc : (acc + 1) * 10 ≤ 1000000000000000000 := Nat.le_trans (Nat.le_mul_of_pos_right _ h10) hb
    unfold Lib.parseUintM
    unfold digit at hc
    rw [if_pos hc, if_neg (by omega), if_neg (by omega)]
    rw [parseM_digits l _ (fun x hx => h x (List.mem_cons_of_mem _ hx)) (Nat.le_trans (Nat.mul_le_mul_right _ (by omega)) hb)]
    rfl
theorem digits_parse (l : List UInt8) (h : ∀ c ∈ l, digit c) (hne : l ≠ []) (hl : l.length ≤ 18) : Lib.parseIntB 64 l = .ok (val 0 l) ∧ Lib.atoiAll l = .ok (val 0 l) := by
  have hp : 10 ^ l.length ≤ 10 ^ 18 := Nat.pow_le_pow_right (by decide) hl
  have hM := parseM_digits l 0 h (by simpa using hp)
  have hv := val_lt l 0 h
  have hv2 : val 0 l < 1000000000000000000 := by omega
  cases l with
  | nil => exact absurd rfl hne
  | cons c r =>
    have hc := h c (List.mem_cons_self ..)
    unfold digit at hc
    constructor
    · rw [Lib.parseIntB_plain 64 c r (by omega) (by omega)]
      unfold Lib.parseUintB
      rw [if_neg (by simp)]
      show Lib.signlessC _ (Lib.parseUintM 18446744073709551615 0 (c :: r)) = _
      rw [hM]
      unfold Lib.signlessC
      have : ¬ (2 ^ (64 - 1) ≤ val 0 (c :: r)) := by
        have : (2 ^ (64 - 1) : Nat) = 9223372036854775808 := by decide
        omega
      simp only [this, if_false]
    · rw [Lib.atoiAll_plain c r (by omega) (by omega)]
      unfold Lib.parseMag
      rw [if_neg (by simp), ← Lib.parseUintM_64, hM]
      unfold Lib.signless
      have : ¬ (9223372036854775808 ≤ val 0 (c :: r)) := by omega
      simp only [this, if_false]

/-! Cut at dashes. -/
theorem index_dash : ∀ (x r : List UInt8), 45 ∉ x → Lib.index (x ++ 45 :: r) [45] = x.length
  | [], r, _ => by simp [Lib.index]
  | b :: x, r, h => by
    have hb : b ≠ 45 := fun e => h (e ▸ List.mem_cons_self ..)
    have hi := index_dash x r fun e => h (List.mem_cons_of_mem _ e)
    show Lib.index (b :: (x ++ 45 :: r)) [45] = _
    unfold Lib.index
    rw [hi, if_neg (by simp; exact fun e => hb e.symm), if_neg (by simp <;> omega)]
    simp
theorem split_dash (k : Nat) (x r : List UInt8) (h : 45 ∉ x) : Lib.splitK [45] 0 (k + 1) (x ++ 45 :: r) = x :: Lib.splitK [45] 0 k r := by
  have hi := index_dash x r h
  show (if Lib.index (x ++ 45 :: r) [45] == -1 then _ else _) = _
  rw [hi, if_neg (by simp <;> omega)]
  simp

/-! Lists of one length, one behind the other. -/
theorem append_lt : ∀ (a b x y : List UInt8), a.length = b.length → (a ++ x < b ++ y ↔ a < b ∨ (a = b ∧ x < y))
  | [], [], x, y, _ => by simp
  | [], _ :: _, _, _, h => by simp at h
  | _ :: _, [], _, _, h => by simp at h
  | c :: a, d :: b, x, y, h => by
    have ih := append_lt a b x y (by simpa using h)
    simp only [List.cons_append, List.cons_lt_cons_iff, ih, List.cons.injEq]
    constructor
    · rintro (h1 | ⟨h1, h2 | ⟨h2, h3⟩⟩)
      · exact .inl (.inl h1)
      · exact .inl (.inr ⟨h1, h2⟩)
      · exact .inr ⟨⟨h1, h2⟩, h3⟩
    · rintro ((h1 | ⟨h1, h2⟩) | ⟨⟨h1, h2⟩, h3⟩)
      · exact .inl h1
      · exact .inr ⟨h1, .inl h2⟩
      · exact .inr ⟨h1, .inr ⟨h2, h3⟩⟩

/-! Names. -/
def right (b : Int) : Prop := 0 ≤ b ∧ b ≤ 1099511627776
instance (b : Int) : Decidable (right b) := inferInstanceAs (Decidable (_ ∧ _))
/-- `log-` -/
def log : List UInt8 := [108, 111, 103, 45]
def segN (b : Nat) : List UInt8 := log ++ dgs 13 b
def seg (b : Int) : List UInt8 := if right b then segN b.toNat else []
def letter (c : UInt8) : Bool := 97 ≤ c && c ≤ 122
def kindly (s : List UInt8) : Bool := decide (1 ≤ s.length) && decide (s.length ≤ 8) && s.all letter
def idly (i : Int) : Prop := 0 ≤ i ∧ i ≤ 2147483647
instance (b : Int) : Decidable (idly b) := inferInstanceAs (Decidable (_ ∧ _))
/-- `seg-` -/
def seg4 : List UInt8 := [115, 101, 103, 45]
def objN (i : Nat) (k : List UInt8) (b : Nat) : List UInt8 := seg4 ++ (dgs 10 i ++ (45 :: (k ++ (45 :: dgs 13 b))))
def obj (i : Int) (k : List UInt8) (b : Int) : List UInt8 := if idly i ∧ kindly k = true ∧ right b then objN i.toNat k b.toNat else []
theorem segN_length (b : Nat) : (segN b).length = 17 := by simp [segN, log, dgs_length]
theorem objN_length (i : Nat) (k : List UInt8) (b : Nat) : (objN i k b).length = 29 + k.length := by simp [objN, seg4, dgs_length]; omega
theorem right_lt {b : Int} (h : right b) : b.toNat < 10 ^ 13 := by unfold right at h; omega
theorem idly_lt {b : Int} (h : idly b) : b.toNat < 10 ^ 10 := by unfold idly at h; omega
theorem segN_lt (a b : Nat) (ha : a < 10 ^ 13) (hb : b < 10 ^ 13) : segN a < segN b ↔ a < b := by
  unfold segN
  rw [append_lt _ _ _ _ rfl, dgs_lt 13 a b ha hb]
  constructor
  · rintro (h | h)
    · exact absurd h (List.lt_irrefl _)
    · exact h.2
  · exact fun h => .inr ⟨rfl, h⟩
theorem segN_inj (a b : Nat) (ha : a < 10 ^ 13) (hb : b < 10 ^ 13) (h : segN a = segN b) : a = b := dgs_inj 13 a b ha hb (List.append_cancel_left h)
theorem dash_dgs (k u : Nat) : 45 ∉ dgs k u := fun h => by have := dgs_digit k u _ h; unfold digit at this; simp at this
theorem dash_kind (k : List UInt8) (h : kindly k = true) : 45 ∉ k := fun hm => by
  unfold kindly at h
  simp only [Bool.and_eq_true, List.all_eq_true] at h
  have := h.2 _ hm
  simp [letter] at this
theorem split_obj (i : Nat) (k : List UInt8) (b : Nat) (hk : kindly k = true) : Lib.splitK [45] 0 3 (objN i k b) = [[115, 101, 103], dgs 10 i, k, dgs 13 b] := by
  have e : objN i k b = [115, 101, 103] ++ 45 :: (dgs 10 i ++ 45 :: (k ++ 45 :: dgs 13 b)) := rfl
  rw [e, split_dash 2 _ _ (by decide), split_dash 1 _ _ (dash_dgs _ _), split_dash 0 _ _ (dash_kind k hk)]
  rfl
end Go.Proofs.YtlflijhnlcdakaaGreatDoor.Nm

namespace Go.Proofs.YtlflijhnlcdakaaGreatDoor.Nm

abbrev Tx := List UInt8
theorem tx_tri (a b : Tx) : a < b ∨ a = b ∨ b < a := by
  by_cases h1 : a < b
  · exact .inl h1
  · by_cases h2 : b < a
    · exact .inr (.inr h2)
    · exact .inr (.inl (List.le_antisymm (List.not_lt.1 h2) (List.not_lt.1 h1)))
/-- Two lists that rise, with the same members, are one. -/
theorem strict_ext : ∀ (a b : List Tx), a.Pairwise (· < ·) → b.Pairwise (· < ·) → (∀ x, x ∈ a ↔ x ∈ b) → a = b
  | [], [], _, _, _ => rfl
  | [], y :: b, _, _, h => absurd ((h y).2 (List.mem_cons_self ..)) List.not_mem_nil
  | x :: a, [], _, _, h => absurd ((h x).1 (List.mem_cons_self ..)) List.not_mem_nil
  | x :: a, y :: b, ha, hb, h => by
    rw [List.pairwise_cons] at ha hb
    have hxy : x = y := by
      rcases List.mem_cons.1 ((h x).1 (List.mem_cons_self ..)) with e | e
      · exact e
      · rcases List.mem_cons.1 ((h y).2 (List.mem_cons_self ..)) with e2 | e2
        · exact e2.symm
        · exact absurd (List.lt_trans (hb.1 x e) (ha.1 y e2)) (List.lt_irrefl _)
    subst hxy
    rw [strict_ext a b ha.2 hb.2 fun z => ?_]
    constructor
    · intro hz
      rcases List.mem_cons.1 ((h z).1 (List.mem_cons_of_mem _ hz)) with e | e
      · subst e; exact absurd (ha.1 _ hz) (List.lt_irrefl _)
      · exact e
    · intro hz
      rcases List.mem_cons.1 ((h z).2 (List.mem_cons_of_mem _ hz)) with e | e
      · subst e; exact absurd (hb.1 _ hz) (List.lt_irrefl _)
      · exact e
/-- Put in place, once. -/
def ins (x : Tx) : List Tx → List Tx
  | [] => [x]
  | y :: l => if y < x then y :: ins x l else if y = x then y :: l else x :: y :: l
theorem mem_ins (x z : Tx) : ∀ l, z ∈ ins x l ↔ z = x ∨ z ∈ l
  | [] => by simp [ins]
  | y :: l => by
    unfold ins
    split
    · rw [List.mem_cons, mem_ins x z l, List.mem_cons]
      constructor
      · rintro (h | h | h)
        · exact .inr (.inl h)
        · exact .inl h
        · exact .inr (.inr h)
      · rintro (h | h | h)
        · exact .inr (.inl h)
        · exact .inl h
        · exact .inr (.inr h)
    · split
      · rename_i e; subst e; simp
      · simp
theorem ins_rises (x : Tx) : ∀ l, l.Pairwise (· < ·) → (ins x l).Pairwise (· < ·)
  | [], _ => by simp [ins]
  | y :: l, h => by
    rw [List.pairwise_cons] at h
    unfold ins
    split
    · rename_i hlt
      rw [List.pairwise_cons]
      refine ⟨fun z hz => ?_, ins_rises x l h.2⟩
      rcases (mem_ins x z l).1 hz with e | e
      · subst e; exact hlt
      · exact h.1 z e
    · rename_i hlt
      split
      · rw [List.pairwise_cons]; exact h
      · rename_i hne
        have hxy : x < y := by
          rcases tx_tri y x with e | e | e
          · exact absurd e hlt
          · exact absurd e hne
          · exact e
        rw [List.pairwise_cons, List.pairwise_cons]
        refine ⟨fun z hz => ?_, h⟩
        rcases List.mem_cons.1 hz with e | e
        · subst e; exact hxy
        · exact List.lt_trans hxy (h.1 z e)
def rising (l : List Tx) : List Tx := l.foldl (fun o x => ins x o) []
theorem rising_go : ∀ (l o : List Tx), o.Pairwise (· < ·) → (l.foldl (fun o x => ins x o) o).Pairwise (· < ·) ∧ ∀ z, z ∈ l.foldl (fun o x => ins x o) o ↔ z ∈ o ∨ z ∈ l
  | [], o, h => ⟨h, fun z => by simp⟩
  | x :: l, o, h => by
    obtain ⟨h1, h2⟩ := rising_go l (ins x o) (ins_rises x o h)
    refine ⟨h1, fun z => ?_⟩
    rw [List.foldl_cons, h2 z, mem_ins, List.mem_cons]
    constructor
    · rintro ((h | h) | h)
      · exact .inr (.inl h)
      · exact .inl h
      · exact .inr (.inr h)
    · rintro (h | h | h)
      · exact .inl (.inr h)
      · exact .inl (.inl h)
      · exact .inr h
theorem rising_rises (l : List Tx) : (rising l).Pairwise (· < ·) := (rising_go l [] List.Pairwise.nil).1
theorem mem_rising (l : List Tx) (z : Tx) : z ∈ rising l ↔ z ∈ l := by
  have := (rising_go l [] List.Pairwise.nil).2 z
  simpa [rising] using this
/-- Sorted texts made compact rise; the members are the same. -/
theorem compact_go (d : Array Tx) (hs : ∀ i j, i < j → j < d.size → d[i]! ≤ d[j]!) : ∀ m, m ≤ d.size → (Lib.compactUpTo d m).Pairwise (· < ·) ∧ (∀ z ∈ Lib.compactUpTo d m, ∃ j, j < m ∧ z = d[j]!) ∧ (∀ j, j < m → d[j]! ∈ Lib.compactUpTo d m)
  | 0, _ => ⟨by simp [Lib.compactUpTo], by simp [Lib.compactUpTo], fun j h => absurd h (Nat.not_lt_zero _)⟩
  | m + 1, hm => by
    obtain ⟨h1, h2, h3⟩ := compact_go d hs m (by omega)
    rw [Lib.compactUpTo_succ]
    by_cases hk : Lib.keeps d m = true
    · rw [if_pos hk]
      refine ⟨?_, ?_, ?_⟩
      · rw [List.pairwise_append]
        refine ⟨h1, List.pairwise_singleton _ _, fun a ha b hb => ?_⟩
        rw [List.mem_singleton.1 hb]
        obtain ⟨j, hj, rfl⟩ := h2 a ha
        have hle := hs j m hj (by omega)
        rcases tx_tri d[j]! d[m]! with e | e | e
        · exact e
        · exfalso
          have hm0 : 0 < m := by omega
          unfold Lib.keeps at hk
          have hne : d[m]! ≠ d[m - 1]! := by
            rcases of_decide_eq_true hk with e2 | e2
            · omega
            · exact e2
          apply hne
          have h4 := hs (m - 1) m (by omega) (by omega)
          have h5 : d[j]! ≤ d[m - 1]! := by
            by_cases e3 : j = m - 1
            · rw [e3]; exact List.le_refl _
            · exact hs j (m - 1) (by omega) (by omega)
          rw [e] at h5
          exact List.le_antisymm h5 h4
        · exact absurd e (List.not_lt.2 hle)
      · intro z hz
        rcases List.mem_append.1 hz with e | e
        · obtain ⟨j, hj, rfl⟩ := h2 z e; exact ⟨j, by omega, rfl⟩
        · exact ⟨m, by omega, List.mem_singleton.1 e⟩
      · intro j hj
        by_cases e : j = m
        · subst e; exact List.mem_append_right _ (List.mem_singleton.2 rfl)
        · exact List.mem_append_left _ (h3 j (by omega))
    · rw [if_neg hk, List.append_nil]
      refine ⟨h1, fun z hz => ?_, fun j hj => ?_⟩
      · obtain ⟨j, hj, rfl⟩ := h2 z hz; exact ⟨j, by omega, rfl⟩
      · by_cases e : j = m
        · subst e
          unfold Lib.keeps at hk
          have h5 : ¬ (j = 0 ∨ d[j]! ≠ d[j - 1]!) := fun h => hk (decide_eq_true h)
          have h6 : j ≠ 0 := fun h => h5 (.inl h)
          have h7 : d[j]! = d[j - 1]! := Classical.byContradiction fun h => h5 (.inr h)
          rw [h7]
          exact h3 (j - 1) (by omega)
        · exact h3 j (by omega)
theorem compact_rising (l zs : List Tx) (hp : ∀ z, z ∈ zs ↔ z ∈ l) (hs : zs.Pairwise (· ≤ ·)) : Lib.compact zs = rising l := by
  have ha : ∀ i, (h : i < zs.length) → zs.toArray[i]! = zs[i] := fun i h => by simp [h]
  obtain ⟨h1, h2, h3⟩ := compact_go zs.toArray (fun i j hij hj => by
    have hj' : j < zs.length := by simpa using hj
    rw [ha i (by omega), ha j hj']
    exact List.pairwise_iff_getElem.1 hs i j (by omega) hj' hij) zs.length (by simp)
  refine strict_ext _ _ h1 (rising_rises l) fun x => ?_
  rw [mem_rising, ← hp]
  constructor
  · intro hx
    obtain ⟨j, hj, rfl⟩ := h2 x hx
    rw [ha j hj]
    exact List.getElem_mem _
  · intro hx
    obtain ⟨j, hj, rfl⟩ := List.mem_iff_getElem.1 hx
    rw [← ha j hj]
    exact h3 j hj
theorem compact_le (zs : List Tx) : (Lib.compact zs).length ≤ zs.length := by
  unfold Lib.compact Lib.compactUpTo
  rw [List.length_map]
  exact Nat.le_trans (List.length_filter_le _ _) (by simp)
end Go.Proofs.YtlflijhnlcdakaaGreatDoor.Nm

namespace Go.Proofs.YtlflijhnlcdakaaGreatDoor
open Go.RowKit Go.Maps Go.Sort

/-- These are the numbers, or the names, at which there is anything, rising. -/
def St.ListsI {α : Type} (f : Int → Option α) (l : List Int) : Prop := l.Pairwise (· < ·) ∧ ∀ x, x ∈ l ↔ f x ≠ none
def St.ListsS {α : Type} (f : List UInt8 → Option α) (l : List (List UInt8)) : Prop := l.Pairwise (· < ·) ∧ ∀ x, x ∈ l ↔ f x ≠ none
def OwnZ (w : World) (base : Nat) (v : Value) (l : List Int) : Prop := w.ownsRow base 3 1 v l.length (l.map (.int .i64 ·))

theorem keysI_lists {w : World} {b nn : Nat} {D0 : DataW Value} {f : Int → Option Value} (hown : w.ownsMap Tryz.prog 3 heldE b nn D0) (hat0 : ∀ k zd, D0.atKey (.int .i64 k) zd = heldV (f k) zd) {ss : List Int} (h : ss.Perm (intKeys D0)) :
    St.ListsI f (ss.mergeSort fun x y => decide (x ≤ y)) := by
  obtain ⟨es, hD, hpw, _⟩ := hown.entries intK
  obtain ⟨es', hD', hko⟩ := hown.keysOf
  obtain rfl : es = es' := by rw [hD] at hD'; simpa using hD'
  subst hD
  have hk : ∀ p ∈ es, ∃ x, p.1 = .int .i64 x := fun p hp => by
    obtain ⟨v, hv⟩ := hko p hp
    obtain ⟨x, _, hx, _⟩ := Maps.keyOf_int_inv Tryz.underlying3 hv
    exact ⟨x, hx⟩
  have hnd : (intKeys (.map es)).Nodup := by
    show (es.map fun p => Go.intOf p.1).Nodup
    refine List.pairwise_map.2 (hpw.imp_of_mem fun {p q} hp hq hne e => hne ?_)
    obtain ⟨x, hx⟩ := hk p hp
    obtain ⟨y, hy⟩ := hk q hq
    rw [hx, hy] at e ⊢
    exact congrArg _ e
  have hmem : ∀ x, x ∈ intKeys (.map es) ↔ f x ≠ none := fun x => by
    have h1 := hasV (mk := fun k : Int => Lit.int .i64 k) hat0 x
    have h2 : f x ≠ none ↔ Maps.has (.map es) (Lit.int .i64 x) = true := by rw [h1]; cases f x <;> simp
    rw [h2, has_eq, List.any_eq_true]
    show x ∈ es.map (fun p => Go.intOf p.1) ↔ _
    rw [List.mem_map]
    constructor
    · rintro ⟨p, hp, rfl⟩
      obtain ⟨y, hy⟩ := hk p hp
      exact ⟨p, hp, by rw [hy]; simp [Lit.sameKey, Go.intOf]⟩
    · rintro ⟨p, hp, hs⟩
      obtain ⟨y, hy⟩ := hk p hp
      rw [hy] at hs
      exact ⟨p, hp, by rw [hy]; simpa [Lit.sameKey, Go.intOf] using hs⟩
  have hp2 : (ss.mergeSort fun x y => decide (x ≤ y)).Perm (intKeys (.map es)) := (List.mergeSort_perm ss _).trans h
  refine ⟨?_, fun x => (hp2.mem_iff).trans (hmem x)⟩
  have hle : (ss.mergeSort fun x y => decide (x ≤ y)).Pairwise (fun a b => decide (a ≤ b) = true) :=
    List.pairwise_mergeSort (fun a b c h1 h2 => by simp only [decide_eq_true_eq] at *; omega) (fun a b => by simp only [Bool.or_eq_true, decide_eq_true_eq]; omega) ss
  have hne : (ss.mergeSort fun x y => decide (x ≤ y)).Nodup := hp2.nodup_iff.2 hnd
  refine (hle.and hne).imp fun {a b} hab => ?_
  have h1 : a ≤ b := of_decide_eq_true hab.1
  have h2 := hab.2
  omega
theorem keysS_lists {w : World} {b nn : Nat} {D0 : DataW Value} {f : List UInt8 → Option Value} (hown : w.ownsMap Tryz.prog 9 heldE b nn D0) (hat0 : ∀ k zd, D0.atKey (.string k) zd = heldV (f k) zd) {ss : List (List UInt8)} (h : ss.Perm (strKeys D0)) :
    St.ListsS f (ss.mergeSort fun x y => decide (x ≤ y)) := by
  obtain ⟨es, hD, hpw, _⟩ := hown.entries strK
  obtain ⟨es', hD', hko⟩ := hown.keysOf
  obtain rfl : es = es' := by rw [hD] at hD'; simpa using hD'
  subst hD
  have hk : ∀ p ∈ es, ∃ x, p.1 = .string x := fun p hp => by
    obtain ⟨v, hv⟩ := hko p hp
    obtain ⟨x, _, hx, _⟩ := Maps.keyOf_str Tryz.underlying9 hv
    exact ⟨x, hx⟩
  have hnd : (strKeys (.map es)).Nodup := by
    show (es.map fun p => strOf p.1).Nodup
    refine List.pairwise_map.2 (hpw.imp_of_mem fun {p q} hp hq hne e => hne ?_)
    obtain ⟨x, hx⟩ := hk p hp
    obtain ⟨y, hy⟩ := hk q hq
    rw [hx, hy] at e ⊢
    exact congrArg _ e
  have hmem : ∀ x, x ∈ strKeys (.map es) ↔ f x ≠ none := fun x => by
    have h1 := hasV (mk := fun k : List UInt8 => Lit.string k) hat0 x
    have h2 : f x ≠ none ↔ Maps.has (.map es) (Lit.string x) = true := by rw [h1]; cases f x <;> simp
    rw [h2, has_eq, List.any_eq_true]
    show x ∈ es.map (fun p => strOf p.1) ↔ _
    rw [List.mem_map]
    constructor
    · rintro ⟨p, hp, rfl⟩
      obtain ⟨y, hy⟩ := hk p hp
      exact ⟨p, hp, by rw [hy]; simp [Lit.sameKey, strOf]⟩
    · rintro ⟨p, hp, hs⟩
      obtain ⟨y, hy⟩ := hk p hp
      rw [hy] at hs
      exact ⟨p, hp, by rw [hy]; simpa [Lit.sameKey, strOf] using hs⟩
  have hp2 : (ss.mergeSort fun x y => decide (x ≤ y)).Perm (strKeys (.map es)) := (List.mergeSort_perm ss _).trans h
  refine ⟨?_, fun x => (hp2.mem_iff).trans (hmem x)⟩
  have hle : (ss.mergeSort fun x y => decide (x ≤ y)).Pairwise (fun a b => decide (a ≤ b) = true) :=
    List.pairwise_mergeSort (fun a b c h1 h2 => by simp only [decide_eq_true_eq] at *; exact List.le_trans h1 h2) (fun a b => by simp only [Bool.or_eq_true, decide_eq_true_eq]; exact List.le_total a b) ss
  have hne : (ss.mergeSort fun x y => decide (x ≤ y)).Nodup := hp2.nodup_iff.2 hnd
  refine (hle.and hne).imp fun {a b} hab => ?_
  have h1 : a ≤ b := of_decide_eq_true hab.1
  rcases Nm.tx_tri a b with e | e | e
  · exact e
  · exact absurd e hab.2
  · exact absurd e (List.not_lt.2 h1)

set_option maxRecDepth 100000 in
theorem StS.names {w0 w : World} {S D : Nat → Prop} {sb n : Nat} {s : St.S} (h : StS w0 S D sb s n w) (hn : n ≤ 1000000) :
    Calls Tryz.prog 9 #[.pointer (some ⟨sb, 0, none⟩)] w fun e w' => ∃ v l, e = .returned v ∧ St.ListsS s.objs l ∧ OwnT w' w.heap.size v l ∧ Below w.heap.size w w' := by
  obtain ⟨ob, ub, sv, ov, pb, pv, hL⟩ := h.st
  obtain ⟨D0, hown, hat0⟩ := hL.objs.ex
  have hsz := hown.size_le
  have c : w.cell? ⟨sb, 0, none⟩ = some (.map (some ob)) := box_cell hL.box 0
  have hS := callsIn_wide.1 (lay_slices_Sorted_keysO ob n D0 heldE w hown (by simp only [maxLen]; omega) (by omega))
  have hK := fun (mb : Option Nat) (W : World) => callsIn_wide.1 (lay_maps_KeysO mb W)
  have hov : ∀ x, ov x ≠ none ↔ s.objs x ≠ none := fun x => by
    have := hL.oat x
    cases h1 : ov x <;> cases h2 : s.objs x <;> simp_all [Both]
  have HL := hide (fun (ss : List (List UInt8)) (hp : ss.Perm (strKeys D0)) => (show St.ListsS s.objs (ss.mergeSort fun x y => decide (x ≤ y)) from ⟨(keysS_lists hown hat0 hp).1, fun x => ((keysS_lists hown hat0 hp).2 x).trans (hov x)⟩))
  have HS := hide hS
  have HK := hide hK
  clear h hL hS hK hown hat0 hsz hov
  go_enter Tryz.func9, Tryz.ntmps9
  go_wp2_with (first
    | (go_at_call 70; refine (HK.out _ _).mono ?_; rintro e w1 ⟨rfl, rfl⟩)
    | (go_at_call 69; refine HS.out.mono ?_; rintro e w2 ⟨v, ss, rfl, hp, hrow, -, hb2⟩; have HRO := hide hrow; have HB := hide hb2; have HP := hide hp; clear hrow hb2 hp)
    | fail)
  go_ret
  have hlen : (ss.mergeSort fun x y => decide (x ≤ y)).length = ss.length := by simp
  refine ⟨_, _, rfl, HL.out ss HP.out, ?_, (balloc (Below.refl _ _) _).trans (HB.out.mono (by simp))⟩
  refine OwnT.mono (base := (w.alloc (.cells #[.map (some ob)] 95)).heap.size) ?_ (by simp)
  unfold OwnT
  rw [hlen]
  exact HRO.out
theorem OwnZ.mono {w : World} {base base' : Nat} {v : Value} {l : List Int} (h : OwnZ w base v l) (hb : base' ≤ base) : OwnZ w base' v l := by
  obtain ⟨h1, h2⟩ := h
  refine ⟨h1, ?_⟩
  rcases h2 with h2 | ⟨g, cap, cur, hv, hg, r⟩
  · exact .inl h2
  · exact .inr ⟨g, cap, cur, hv, by omega, r⟩
set_option maxRecDepth 100000 in
theorem StS.openOf {w0 w : World} {S D : Nat → Prop} {sb n : Nat} {s : St.S} (h : StS w0 S D sb s n w) (hn : n ≤ 1000000) :
    Calls Tryz.prog 62 #[.pointer (some ⟨sb, 0, none⟩)] w fun e w' => ∃ v l, e = .returned v ∧ St.ListsI s.ups l ∧ OwnZ w' w.heap.size v l ∧ Below w.heap.size w w' := by
  obtain ⟨ob, ub, sv, ov, pb, pv, hL⟩ := h.st
  obtain ⟨D0, hown, hat0⟩ := hL.ups.ex
  have hsz := hown.size_le
  have c : w.cell? ⟨sb, 1, none⟩ = some (.map (some ub)) := box_cell hL.box 1
  have hS := callsIn_wide.1 (lay_slices_Sorted_keysI ub n D0 heldE w hown (by simp only [maxLen]; omega) (by omega))
  have hK := fun (mb : Option Nat) (W : World) => callsIn_wide.1 (lay_maps_KeysI mb W)
  have hov : ∀ x, upV pb s x ≠ none ↔ s.ups x ≠ none := fun x => by simp [upV]
  have HL := hide (fun (ss : List Int) (hp : ss.Perm (intKeys D0)) => (show St.ListsI s.ups (ss.mergeSort fun x y => decide (x ≤ y)) from ⟨(keysI_lists hown hat0 hp).1, fun x => ((keysI_lists hown hat0 hp).2 x).trans (hov x)⟩))
  have HS := hide hS
  have HK := hide hK
  clear h hL hS hK hown hat0 hsz hov
  go_enter Tryz.func62, Tryz.ntmps62
  go_wp2_with (first
    | (go_at_call 118; refine (HK.out _ _).mono ?_; rintro e w1 ⟨rfl, rfl⟩)
    | (go_at_call 117; refine HS.out.mono ?_; rintro e w2 ⟨v, ss, rfl, hp, hrow, -, hb2⟩; have HRO := hide hrow; have HB := hide hb2; have HP := hide hp; clear hrow hb2 hp)
    | fail)
  go_ret
  have hlen : (ss.mergeSort fun x y => decide (x ≤ y)).length = ss.length := by simp
  refine ⟨_, _, rfl, HL.out ss HP.out, ?_, (balloc (Below.refl _ _) _).trans (HB.out.mono (by simp))⟩
  refine OwnZ.mono (base := (w.alloc (.cells #[.map (some ub)] 96)).heap.size) ?_ (by simp)
  unfold OwnZ
  rw [hlen]
  exact HRO.out
end Go.Proofs.YtlflijhnlcdakaaGreatDoor

namespace Go.Proofs.YtlflijhnlcdakaaGreatDoor
open Go.RowKit Go.Shelf
def lay_hasPrefixF_ren : Go.Shelf.Ren := ⟨fun | 99 => 88 | 206 => 129 | n => n, fun | 9 => 9 | 4 => 4 | 3 => 3 | n => n, fun | n => n⟩
theorem lay_hasPrefixF : Go.Proofs.Lays.n99 Tryz.prog lay_hasPrefixF_ren := {
  mixed := by kernel_rfl
  f99 := Tryz.func88.trans (congrArg some (by kernel_rfl))
  f206 := Tryz.func129.trans (congrArg some (by kernel_rfl))
  t3 := Tryz.underlying3
  a3 := Tryz.isAgg3
  z3 := Tryz.sizeOf3
  v3 := Tryz.zeroValue3
  t4 := Tryz.underlying4
  a4 := Tryz.isAgg4
  z4 := Tryz.sizeOf4
  v4 := Tryz.zeroValue4
  t9 := Tryz.underlying9
  a9 := Tryz.isAgg9
  z9 := Tryz.sizeOf9
  v9 := Tryz.zeroValue9 }
theorem hasPrefix_st (s p : List UInt8) (w : World) : Calls Tryz.prog 88 #[encStr s, encStr p] w fun e w' => e = .returned (.bool (Lib.hasPrefix s p)) ∧ w' = w :=
  Any.strings_HasPrefix lay_hasPrefixF ⟨s.toArray⟩ ⟨p.toArray⟩ w
end Go.Proofs.YtlflijhnlcdakaaGreatDoor

namespace Go.Proofs.YtlflijhnlcdakaaGreatDoor
open Go.RowKit Go.Maps

set_option maxRecDepth 100000 in
/-- Names, of the store at its block. -/
theorem names1_any {w : World} {sb ob ub : Nat} {sv : Value} {ov : St.Nm → Option Value} {pb : Int → Nat} {pv : Int → Int → Option Value} {s : St.S} {n : Nat} {S D : Nat → Prop} (h : StoreL w sb ob ub sv ov pb pv s n S D) (hn : n ≤ 1000000) :
    Calls Tryz.prog 9 #[.pointer (some ⟨sb, 0, none⟩)] w fun e w' => ∃ v l, e = .returned v ∧ St.ListsS s.objs l ∧ OwnT w' w.heap.size v l ∧ Below w.heap.size w w' := by
  obtain ⟨D0, hown, hat0⟩ := h.objs.ex
  have hsz := hown.size_le
  have c : w.cell? ⟨sb, 0, none⟩ = some (.map (some ob)) := box_cell h.box 0
  have hS := callsIn_wide.1 (lay_slices_Sorted_keysO ob n D0 heldE w hown (by simp only [maxLen]; omega) (by omega))
  have hK := fun (mb : Option Nat) (W : World) => callsIn_wide.1 (lay_maps_KeysO mb W)
  have hov : ∀ x, ov x ≠ none ↔ s.objs x ≠ none := fun x => by
    have := h.oat x
    cases h1 : ov x <;> cases h2 : s.objs x <;> simp_all [Both]
  have HL := hide (fun (ss : List (List UInt8)) (hp : ss.Perm (strKeys D0)) => (show St.ListsS s.objs (ss.mergeSort fun x y => decide (x ≤ y)) from ⟨(keysS_lists hown hat0 hp).1, fun x => ((keysS_lists hown hat0 hp).2 x).trans (hov x)⟩))
  have HS := hide hS
  have HK := hide hK
  clear h hS hK hown hat0 hsz hov
  go_enter Tryz.func9, Tryz.ntmps9
  go_wp2_with (first
    | (go_at_call 70; refine (HK.out _ _).mono ?_; rintro e w1 ⟨rfl, rfl⟩)
    | (go_at_call 69; refine HS.out.mono ?_; rintro e w2 ⟨v, ss, rfl, hp, hrow, -, hb2⟩; have HRO := hide hrow; have HB := hide hb2; have HP := hide hp; clear hrow hb2 hp)
    | fail)
  go_ret
  have hlen : (ss.mergeSort fun x y => decide (x ≤ y)).length = ss.length := by simp
  refine ⟨_, _, rfl, HL.out ss HP.out, ?_, (balloc (Below.refl _ _) _).trans (HB.out.mono (by simp))⟩
  refine OwnT.mono (base := (w.alloc (.cells #[.map (some ob)] 95)).heap.size) ?_ (by simp)
  unfold OwnT
  rw [hlen]
  exact HRO.out

/-- What is under a prefix. -/
def St.S.under (s : St.S) (k x : St.Nm) : Option (List UInt8) := if Lib.hasPrefix x k = true then s.objs x else none
theorem St.under_lists {s : St.S} {k : St.Nm} {l : List St.Nm} (h : St.ListsS s.objs l) : St.ListsS (s.under k) (l.filter fun x => Lib.hasPrefix x k) :=
  ⟨h.1.filter _, fun x => by
    rw [List.mem_filter, h.2 x]
    unfold St.S.under
    cases hp : Lib.hasPrefix x k <;> simp⟩
theorem filter_step {l : List St.Nm} {k : St.Nm} {j : Nat} (hj : j < l.length) : (l.take (j + 1)).filter (fun x => Lib.hasPrefix x k) = (l.take j).filter (fun x => Lib.hasPrefix x k) ++ (if Lib.hasPrefix (l.getD j []) k = true then [l.getD j []] else []) := by
  rw [List.take_succ_eq_append_getElem hj, List.filter_append]
  have e : l.getD j [] = l[j] := by simp [List.getD, hj]
  rw [e]
  cases hp : Lib.hasPrefix l[j] k <;> simp [hp]

set_option maxRecDepth 100000 in
set_option maxHeartbeats 1000000 in
/-- The closure of List. -/
theorem stList1_any {w : World} {sb ob ub : Nat} {sv : Value} {ov : St.Nm → Option Value} {pb : Int → Nat} {pv : Int → Int → Option Value} {s : St.S} {n : Nat} {S D : Nat → Prop} (h : StoreL w sb ob ub sv ov pb pv s n S D) (hn : n ≤ 1000000)
    (xb ib : Nat) (k : List UInt8) (c1 : w.cell? ⟨xb, 0, none⟩ = some (.pointer (some ⟨sb, 0, none⟩))) (c2 : w.cell? ⟨ib, 0, none⟩ = some (encStr k)) (hlen : ∀ l, St.ListsS s.objs l → l.length ≤ 1000000) :
    Calls Tryz.prog 87 #[.pointer (some ⟨xb, 0, none⟩), .pointer (some ⟨ib, 0, none⟩)] w fun e w' => ∃ A n c l, e = .returned (.tuple #[.slice A n c, .nilIface]) ∧ St.ListsS (s.under k) l ∧ OwnT w' w.heap.size (.slice A n c) l ∧ Below w.heap.size w w' := by
  have HNM := hide (names1_any h hn)
  have HLEN := hide hlen
  have HC2 : Hid (∀ W, Below w.heap.size w W → W.cell? ⟨ib, 0, none⟩ = some (encStr k)) := hide (fun W hb => (hb.cell (p := ⟨ib, 0, none⟩) (World.block_lt_of_cell? _ _ c2)).trans c2)
  have HHP := hide (fun x W => hasPrefix_st x k W)
  clear h c2 hlen
  go_enter Tryz.func87, Tryz.ntmps87
  go_wp2_with (first
    | (go_at_call 9; refine HNM.out.mono ?_; rintro e w1 ⟨v, l, rfl, hl, ho, hb⟩; obtain ⟨A1, x1, rfl, hrd, -, hcap, hmx⟩ := ho.reads; have HL := hide hl; have HO := hide ho; have HRD := hide hrd; have HB1 := hide hb; have hle := HLEN.out l hl; clear hl ho hrd hb)
    | fail)
  generalize hL : l.length = L at *
  have HLL := hide hL
  clear hL
  go_loopw [4, 10] (fun v i wr => ∃ j : Nat, j ≤ L ∧ i = .int .i64 j ∧ OwnT wr w1.heap.size v ((l.take j).filter fun x => Lib.hasPrefix x k) ∧ Below w1.heap.size w1 wr) (fun _ i _ => L - (intOf i).toNat)
  case atStart => exact ⟨0, Nat.zero_le _, rfl, by simp; exact OwnT.nil _ _, Below.refl _ _⟩
  case round =>
    obtain ⟨j, hj, rfl, ho, hbx⟩ := hrel
    have HOX := hide ho
    have HBX := hide hbx
    clear ho hbx
    by_cases hlt : j < L
    · have hjl : j < l.length := by rw [HLL.out]; exact hlt
      rcases HRD.out with h0 | ⟨b, off, rfl, hb0, hc0⟩
      · rw [h0] at hjl; simp at hjl
      have hcj : wr.cell? ⟨b, off + j, none⟩ = some (encStr (l.getD j [])) := (HBX.out.cell (p := ⟨b, off + j, none⟩) hb0).trans (hc0 j hjl)
      have hck := HC2.out wr (HB1.out.trans (HBX.out.mono HB1.out.size))
      have HST := hide (filter_step (k := k) hjl)
      have HFL : Hid (((l.take j).filter fun x => Lib.hasPrefix x k).length ≤ 1000000) := hide (Nat.le_trans (List.length_filter_le _ _) (by rw [List.length_take]; omega))
      clear hc0 hjl
      generalize l.getD j [] = x at *
      generalize (l.take j).filter (fun x => Lib.hasPrefix x k) = l0 at *
      cases hp : Lib.hasPrefix x k
      · have HE : Hid ((l.take (j + 1)).filter (fun x => Lib.hasPrefix x k) = l0) := hide (by rw [HST.out, hp]; simp)
        have HPX : Hid (∀ W, Calls Tryz.prog 88 #[encStr x, encStr k] W fun e w' => e = .returned (.bool false) ∧ w' = W) := hide (fun W => hp ▸ HHP.out x W)
        clear hp
        unfold encStr at hcj hck
        go_wp2_with (first
          | (go_at_call 88; refine (HPX.out _).mono ?_; rintro e w2 ⟨rfl, rfl⟩)
          | fail)
        go_roundw
        case rel => exact ⟨j + 1, by omega, by go_num, by rw [HE.out]; exact HOX.out, HBX.out⟩
        case measure => simp [intOf]; omega
      · have HE : Hid ((l.take (j + 1)).filter (fun x => Lib.hasPrefix x k) = l0 ++ [x]) := hide (by rw [HST.out, hp]; simp)
        have HPX : Hid (∀ W, Calls Tryz.prog 88 #[encStr x, encStr k] W fun e w' => e = .returned (.bool true) ∧ w' = W) := hide (fun W => hp ▸ HHP.out x W)
        clear hp
        unfold encStr at hcj hck
        go_wp2_with (first
          | (go_at_call 88; refine (HPX.out _).mono ?_; rintro e w2 ⟨rfl, rfl⟩)
          | (at_builtin; refine wpList_appT rfl (.tmp 17) (.tmp 19) rfl w1.heap.size _ l0 [x] rfl (HOX.out.alloc _) (some ⟨w2.heap.size, 0, none⟩) 1 1 rfl rfl (.inr ⟨w2.heap.size, 0, rfl, by simp, fun i hi => by
              obtain rfl : i = 0 := by simp at hi; omega
              rw [World.cell?_alloc_mark]; rfl⟩) (by have := HFL.out; omega) (by have := HBX.out.size; simp; omega) ?_; intro v5 w5 hown5 hg5 hv5; have HOW := hide hown5; have HBN := hide ((balloc HBX.out _).grown hg5 (by have := HBX.out.size; simp; omega) (fun g hg => (HOX.out.lt g hg).1)); clear hown5 hg5 hv5)
          | fail)
        go_roundw
        case rel => exact ⟨j + 1, by omega, by go_num, by rw [HE.out]; exact HOW.out, HBN.out⟩
        case measure => simp [intOf]; omega
    · obtain rfl : j = L := by omega
      have HE : Hid ((l.take j).filter (fun x => Lib.hasPrefix x k) = l.filter fun x => Lib.hasPrefix x k) := hide (by rw [← HLL.out, List.take_length])
      rw [HE.out] at HOX
      obtain ⟨A2, x2, rfl, -⟩ := HOX.out.reads
      go_wp2_with fail
      go_returns
      exact ⟨A2, _, x2, _, rfl, St.under_lists HL.out, HOX.out.mono HB1.out.size, HB1.out.trans (HBX.out.mono HB1.out.size)⟩

/-- What List tells: the store's names under a prefix, rising. -/
def LsV (B : Nat) (k : St.Nm) (r : Option St.S) (v : Value) (w : World) : Prop := match r with
  | none => v = .slice none 0 0
  | some t => ∃ l, St.ListsS (t.under k) l ∧ OwnT w B v l
theorem LsV.below {B : Nat} {k : St.Nm} (r : Option St.S) (v : Value) (w w' : World) (h : LsV B k r v w) (hb : Below w.heap.size w w') : LsV B k r v w' := by
  cases r with
  | none => exact h
  | some t => obtain ⟨l, h1, h2⟩ := h; exact ⟨l, h1, h2.below hb (Nat.le_refl _)⟩
def St.S.listF (t : St.S) : (Option St.S × Option Nat) × St.S := ((some t, none), t)
def St.S.list (s : St.S) : (Option St.S × Option Nat) × St.S := s.ask none St.S.listF
theorem St.list_quiet : St.Quiet St.S.listF := fun _ => ⟨rfl, rfl⟩
set_option maxRecDepth 100000 in
set_option maxHeartbeats 1000000 in
theorem StS.list {w0 w : World} {S D : Nat → Prop} {sb n : Nat} {s : St.S} (h : StS w0 S D sb s n w) (p : Nat → Addr) (hs : Sents w0 p) (hn : n ≤ 1000000) (k : List UInt8) (hlen : ∀ l, St.ListsS s.objs l → l.length ≤ 1000000) :
    Calls Tryz.prog 17 #[.pointer (some ⟨sb, 0, none⟩), encStr k] w fun e w' => ∃ v, e = .returned (.tuple #[v, errR p s.list.1.2]) ∧ LsV w.heap.size k s.list.1.1 v w' ∧ StS w0 S D sb s.list.2 (n + 1) w' ∧ Chg S w w' := by
  obtain ⟨W, hW⟩ : ∃ W, W = ((w.alloc (.cells #[.pointer (some ⟨sb, 0, none⟩)] 24)).alloc (.cells #[encStr k] 9)) := ⟨_, rfl⟩
  have hb : Below w.heap.size w W := hW ▸ balloc (balloc (Below.refl _ _) _) _
  have q0 : W.cell? ⟨w.heap.size, 0, none⟩ = some (.pointer (some ⟨sb, 0, none⟩)) := by
    rw [hW, World.cell?_alloc_lt _ _ _ (by simp <;> omega), World.cell?_alloc_mark]; rfl
  have q1 : W.cell? ⟨w.heap.size + 1, 0, none⟩ = some (encStr k) := by
    have e : (w.alloc (.cells #[.pointer (some ⟨sb, 0, none⟩)] 24)).heap.size = w.heap.size + 1 := by simp
    rw [hW, ← e, World.cell?_alloc_mark]; rfl
  have hbW := h.below.trans (hb.mono h.below.size)
  have hsb : sb < w.heap.size := by obtain ⟨_, _, _, _, _, _, hl⟩ := h.st; exact hl.lt _ (.inl hl.msb)
  have hSg : ∀ j, j < 19 → ¬ S (gs.getD j 0) := fun j hj hS => by have := h.lo _ (.inl hS); have := hs.size j hj; omega
  have hsbg : ∀ j, j < 19 → gs.getD j 0 ≠ sb := fun j hj e => by obtain ⟨_, _, _, _, _, _, hl⟩ := h.st; exact hSg j hj (e ▸ hl.msb)
  have hmsb : S sb := by obtain ⟨_, _, _, _, _, _, hl⟩ := h.st; exact hl.msb
  have HB := hide (ansCallT (h.st.below hb) ⟨h.calls.1, by have := h.calls.2; omega⟩ ⟨h.failed.1, by have := h.failed.2; omega⟩ p (errCell hs hbW 10 (by omega)) (hSg 10 (by omega)) 87 #[.pointer (some ⟨w.heap.size, 0, none⟩), .pointer (some ⟨w.heap.size + 1, 0, none⟩)] (enters_of Tryz.func87 (by kernel_rfl) rfl) (none : Option St.S) (St.S.listF) (LsV w.heap.size k) LsV.below (fun W => rfl) (fun t W' => IsStore W' sb t n S D ∧ Chg S W W') (fun w1 hc hi => ⟨hi, hc.mono fun k e => e ▸ hmsb⟩) (fun t W W' hh hb => ⟨hh.1.below hb, hh.2.then (Chg.of_below hb)⟩) (fun t W hh => hh.2)
    fun w1 hc1 h1 => by
      obtain ⟨ob, ub, sv, ov, pb, pv, h1⟩ := h1
      refine (stList1_any h1 (by omega) _ _ k (hc1.cell q0 (by show ¬ (w.heap.size = sb); omega)) (hc1.cell q1 (by show ¬ (w.heap.size + 1 = sb); omega)) hlen).mono ?_
      rintro e w2 ⟨A, x, c, l, he, hl, ho, hb2⟩
      have hz1 := hc1.size
      refine ⟨A, x, c, he, ⟨l, hl, ho.mono (Nat.le_trans hb.size hz1)⟩, ?_⟩
      exact ⟨IsStore.below ⟨_, _, _, _, _, _, h1⟩ hb2, (hc1.mono fun k e => e ▸ hmsb).then (Chg.of_below hb2)⟩)
  have HP : Hid (∀ w', IsStore w' sb (s.ask (none : Option St.S) (St.S.listF)).2 n S D ∧ Chg S W w' → StS w0 S D sb (s.ask (none : Option St.S) (St.S.listF)).2 (n + 1) w' ∧ Chg S w w') := hide (fun w' hp => by
    have hq := St.ask_num (St.list_quiet) s (none : Option St.S)
    have := h.calls; have := h.failed
    have hch := (Chg.of_below hb).then hp.2
    exact ⟨h.read hp.1 hch ⟨by omega, by omega⟩ ⟨by omega, by omega⟩, hch⟩)
  have HW := hide hW
  clear h hs hW hb q0 q1 hbW hSg hsbg hsb hmsb
  go_enter Tryz.func17, Tryz.ntmps17
  go_wp2_with (first
    | (go_at_call 86; rw [← HW.out]; refine HB.out.mono ?_; rintro e w1 ⟨A, x, c, rfl, ho, hp⟩; have H := hide (HP.out _ hp); have HO := hide ho; clear hp ho)
    | fail)
  go_returns
  exact ⟨_, rfl, HO.out, H.out⟩
end Go.Proofs.YtlflijhnlcdakaaGreatDoor
