/-
  Package index: Cut.
  What IndexCuts does, plainly: an index cut at a batch's place.
-/
import Derived.Test.YteeadlefbehhfaaDoorIxSr
import Derived.Test.YteeadlefbehhfaaDoorIxW
import Derived.Test.YteeadlefbehhfaaDoorRegG
import Derived.Test.YteeadlefbehhfaaDoorIxR
namespace Go.Proofs.YteeadlefbehhfaaDoor
open Go.RowKit Go.Shelf Go.Sort

/-- The row of marks is cut. -/
theorem IxL.cutMk {w w1 : World} {X : Nat} {A : Option Addr} {n c : Nat} {av : Value} {s : Ix.St} {S : Nat → Prop} (h : IxL w X (.slice A n c) av s S) (hb : Below w.heap.size w w1) (hl : n = s.marks.length) (k : Nat) (hk : k ≤ n) :
    IxL (w1.setCell ⟨X, 1, none⟩ (.slice A k c)) X (.slice A k c) av ⟨s.every, s.marks.take k, s.adds, s.time⟩ S ∧ Chg S w (w1.setCell ⟨X, 1, none⟩ (.slice A k c)) := by
  obtain ⟨n1, n2, -, -⟩ := h.ne
  have h1 := h.same (S := S) fun k _ hk => hb.block k hk
  have hob : Value.ownBlock (.slice A k c) = Value.ownBlock (.slice A n c) := by cases A <;> rfl
  refine ⟨⟨heap_setCell_same w1 X 1 _ _ _ h1.box, ?_, ownsRow_same h1.adds fun g hg => Below.heap_setCell _ _ _ _ (fun e => n2 (by rw [hg, e])), h.mX, fun g hg => h.mM g (hob ▸ hg), h.mA⟩, (Chg.of_below hb).then (Chg.setCell w1 X 1 _ h.mX)⟩
  have hr := h1.marks
  rw [← hl] at hr
  have hc := ownsRow_cut hr k hk
  rw [mk_take _ _ (hl ▸ hk)] at hc
  show World.ownsRow _ 0 _ 3 _ (s.marks.take k).length ((s.marks.take k).flatMap mkCells)
  rw [List.length_take, Nat.min_eq_left (hl ▸ hk)]
  exact ownsRow_same hc fun g hg => Below.heap_setCell _ _ _ _ (fun e => n1 (by rw [← hob, hg, e]))
theorem IxL.cutAd {w w1 : World} {X : Nat} {A : Option Addr} {n c : Nat} {mv : Value} {s : Ix.St} {S : Nat → Prop} (h : IxL w X mv (.slice A n c) s S) (hb : Below w.heap.size w w1) (hl : n = s.adds.length) (k : Nat) (hk : k ≤ n) :
    IxL (w1.setCell ⟨X, 2, none⟩ (.slice A k c)) X mv (.slice A k c) ⟨s.every, s.marks, s.adds.take k, s.time⟩ S ∧ Chg S w (w1.setCell ⟨X, 2, none⟩ (.slice A k c)) := by
  obtain ⟨n1, n2, -, -⟩ := h.ne
  have h1 := h.same (S := S) fun k _ hk => hb.block k hk
  have hob : Value.ownBlock (.slice A k c) = Value.ownBlock (.slice A n c) := by cases A <;> rfl
  refine ⟨⟨heap_setCell_same w1 X 2 _ _ _ h1.box, ownsRow_same h1.marks fun g hg => Below.heap_setCell _ _ _ _ (fun e => n1 (by rw [hg, e])), ?_, h.mX, h.mM, fun g hg => h.mA g (hob ▸ hg)⟩, (Chg.of_below hb).then (Chg.setCell w1 X 2 _ h.mX)⟩
  have hr := h1.adds
  rw [← hl] at hr
  have hc := ownsRow_cut hr k hk
  rw [ad_take _ _ (hl ▸ hk)] at hc
  show World.ownsRow _ 0 _ 2 _ (s.adds.take k).length ((s.adds.take k).flatMap adCells)
  rw [List.length_take, Nat.min_eq_left (hl ▸ hk)]
  exact ownsRow_same hc fun g hg => Below.heap_setCell _ _ _ _ (fun e => n2 (by rw [← hob, hg, e]))
theorem mk_slice {w : World} {X : Nat} {mv av : Value} {s : Ix.St} {S : Nat → Prop} (h : IxL w X mv av s S) : ∃ A n c, mv = .slice A n c ∧ n = s.marks.length ∧ n ≤ c ∧ ∀ k, k < n → ∃ g, A = some ⟨g, 0, none⟩ ∧ n ≤ c ∧ w.cell? ⟨g, k * 3 + 1, none⟩ = some (.int .i64 (s.marks.getD k ⟨0, 0, 0⟩).time) ∧ w.cell? ⟨g, k * 3 + 2, none⟩ = some (.int .i64 (s.marks.getD k ⟨0, 0, 0⟩).pos) := by
  rcases h.marks.2 with ⟨e, k0⟩ | ⟨g, cap, cur, e, _, hh, hcap, _⟩
  · exact ⟨_, _, _, e, k0.symm, Nat.le_refl _, fun k hk => by omega⟩
  · refine ⟨_, _, _, e, rfl, by omega, fun k hk => ⟨g, rfl, by omega, ?_⟩⟩
    obtain ⟨k1, k2, k3⟩ := mk_at s.marks k hk
    have hc := h.marks.cells (g := g) (by rw [e]; rfl)
    have eg : s.marks.getD k ⟨0, 0, 0⟩ = s.marks[k] := by simp [List.getD, hk]
    rw [eg]
    constructor
    · have := hc _ _ k2; rwa [Addr.add_lit, Nat.zero_add] at this
    · have := hc _ _ k3; rwa [Addr.add_lit, Nat.zero_add] at this
theorem ad_slice {w : World} {X : Nat} {mv av : Value} {s : Ix.St} {S : Nat → Prop} (h : IxL w X mv av s S) : ∃ A n c, av = .slice A n c ∧ n = s.adds.length ∧ n ≤ c ∧ ∀ k, k < n → ∃ g, A = some ⟨g, 0, none⟩ ∧ n ≤ c ∧ w.cell? ⟨g, k * 2 + 1, none⟩ = some (.int .i64 (s.adds.getD k ⟨0, 0⟩).pos) := by
  rcases h.adds.2 with ⟨e, k0⟩ | ⟨g, cap, cur, e, _, hh, hcap, _⟩
  · exact ⟨_, _, _, e, k0.symm, Nat.le_refl _, fun k hk => by omega⟩
  · refine ⟨_, _, _, e, rfl, by omega, fun k hk => ⟨g, rfl, by omega, ?_⟩⟩
    obtain ⟨k1, k2⟩ := ad_at s.adds k hk
    have hc := h.adds.cells (g := g) (by rw [e]; rfl)
    have eg : s.adds.getD k ⟨0, 0⟩ = s.adds[k] := by simp [List.getD, hk]
    rw [eg]
    have := hc _ _ k2; rwa [Addr.add_lit, Nat.zero_add] at this

theorem lastTime_len {l : List Ix.Mark} {k : Nat} (h : l.length = k + 1) : Ix.lastTime l = (l.getD k ⟨0, 0, 0⟩).time := by
  unfold Ix.lastTime
  rw [List.getLast?_eq_getElem?, h, Nat.add_sub_cancel, List.getElem?_eq_getElem (by omega)]
  simp [List.getD, h]
theorem last_cell {w : World} {X k c : Nat} {A : Option Addr} {av : Value} {s : Ix.St} {S : Nat → Prop} (h : IxL w X (.slice A (k + 1) c) av s S) (hl : s.marks.length = k + 1) : ∃ g t, A = some ⟨g, 0, none⟩ ∧ w.cell? ⟨g, k * 3 + 1, none⟩ = some (.int .i64 t) ∧ Ix.lastTime s.marks = t := by
  obtain ⟨A', n, c', e, hn, hc, hcell⟩ := mk_slice h
  injection e with e1 e2 e3
  subst e1 e2 e3
  obtain ⟨g, eg, _, k1, _⟩ := hcell k (by omega)
  exact ⟨g, _, eg, k1, lastTime_len hl⟩

set_option maxRecDepth 100000 in
set_option maxHeartbeats 2000000 in
theorem ixCut_any (X : Nat) (s : Ix.St) (S : Nat → Prop) (p : Int) (w : World) (hi : IxAt w X s S) (hn1 : s.marks.length ≤ 1000000) (hn2 : s.adds.length ≤ 1000000) (hS : ∀ k, S k → k < w.heap.size)
    (hm1 : ∀ a b, a ≤ b → b < s.marks.length → p ≤ (s.marks.getD a ⟨0, 0, 0⟩).pos → p ≤ (s.marks.getD b ⟨0, 0, 0⟩).pos)
    (hm2 : ∀ a b, a ≤ b → b < s.adds.length → p ≤ (s.adds.getD a ⟨0, 0⟩).pos → p ≤ (s.adds.getD b ⟨0, 0⟩).pos) :
    Calls Tryd.prog 22 #[.pointer (some ⟨X, 0, none⟩), .int .i64 p] w fun e w' => e = .returned (.tuple #[]) ∧ IxAt w' X (s.cut p) S ∧ Chg S w w' := by
  obtain ⟨mv, av, h⟩ := hi
  obtain ⟨W0, hW0⟩ : ∃ W0, W0 = (w.alloc (.cells #[.pointer (some ⟨X, 0, none⟩)] 24)).alloc (.cells #[.int .i64 p] 3) := ⟨_, rfl⟩
  have hb0 : Below w.heap.size w W0 := by rw [hW0]; exact balloc (balloc (Below.refl _ _) _) _
  have b0 : W0.cell? ⟨w.heap.size, 0, none⟩ = some (.pointer (some ⟨X, 0, none⟩)) := by rw [hW0]; exact cell_alloc_sl _ (cell_new_sl _ _ _)
  have b1 : W0.cell? ⟨w.heap.size + 1, 0, none⟩ = some (.int .i64 p) := by
    rw [hW0]
    have e : (w.alloc (.cells #[.pointer (some ⟨X, 0, none⟩)] 24)).heap.size = w.heap.size + 1 := by simp
    rw [← e]; exact cell_new_sl _ _ _
  have HL0 : Hid (IxL W0 X mv av s S) := hide (h.same fun k _ hk => hb0.block k hk)
  obtain ⟨A, n, c, rfl, hl, hnc, hcm⟩ := mk_slice HL0.out
  have x1 : W0.cell? ⟨X, 1, none⟩ = some (.slice A n c) := box_cell HL0.out.box 1
  have HS1 := hide (fun (V : World) (hb : Below W0.heap.size W0 V) => search1_any w.heap.size X A n c s p V hl (by omega) ((hb.cell (World.block_lt_of_cell? _ _ b0)).trans b0) ((hb.cell (World.block_lt_of_cell? _ _ b1)).trans b1) ((hb.cell (World.block_lt_of_cell? _ _ x1)).trans x1)
    (fun k hk => by obtain ⟨g, e, h1, _, h2⟩ := hcm k hk; exact ⟨g, e, h1, (hb.cell (World.block_lt_of_cell? _ _ h2)).trans h2⟩) hm1)
  have HW0 := hide hW0
  have HB0 := hide hb0
  have HB0' := hide hb0
  have hk1 := s.cntM_le p
  rw [← hl] at hk1
  obtain ⟨k1, hk1e⟩ : ∃ k1, k1 = s.cntM p := ⟨_, rfl⟩
  rw [← hk1e] at hk1 HS1
  have HK1 := hide hk1e
  have hkc : k1 ≤ c := Nat.le_trans hk1 hnc
  have HLN := hide (And.intro hl hk1)
  have HXN : Hid (X < w.heap.size) := hide (hS _ HL0.out.mX)
  clear h hb0 hW0 hk1e hcm hl hk1 hnc
  have hxz : X < W0.heap.size := (Array.getElem?_eq_some_iff.1 HL0.out.box).1
  have hbz0 : w.heap.size < W0.heap.size := World.block_lt_of_cell? _ _ b0
  have hbz1 : w.heap.size + 1 < W0.heap.size := World.block_lt_of_cell? _ _ b1
  have HH := hide (And.intro hn2 (And.intro hS hm2))
  clear hn2 hS hm2
  go_enter Tryd.func22, Tryd.ntmps22
  go_upto_region 1 with fail
  rw [← HW0.out]
  refine wp_region_store (G := Below W0.heap.size) ⟨fun w => Below.refl _ w, fun h k => h.trans k⟩ [5, 6, 7, 8, 9, 10, 11, 12, 13, 14, 15, 16, 17, 18, 19] (fun d => match d with
    | 5 => .is (.pointer (some ⟨X, 0, none⟩)) | 6 => .is (.pointer (some ⟨X, 0, none⟩)) | 7 => .is (.pointer (some ⟨X, 0, none⟩)) | 8 => .is (.pointer (some ⟨X, 1, none⟩)) | 9 => .is (.slice A n c)
    | 10 => .is (.pointer (some ⟨X, 0, none⟩)) | 11 => .is (.pointer (some ⟨X, 0, none⟩)) | 12 => .is (.pointer (some ⟨X, 1, none⟩)) | 13 => .is (.slice A n c) | 14 => .is (.int .i64 n)
    | 15 => .is (.func (.func 60) #[] #[.pointer (some ⟨w.heap.size, 0, none⟩), .pointer (some ⟨w.heap.size + 1, 0, none⟩)]) | 16 => .is (.int .i64 k1) | 17 => .is (.slice A k1 c)
    | 18 => .is (.pointer (some ⟨X, 0, none⟩)) | 19 => .is (.pointer (some ⟨X, 1, none⟩)) | _ => .any) _ (by kernel_rfl) (by kernel_rfl) rfl (by kernel_rfl) ?_ ?_
  · simp only [List.size_toArray, List.length_cons, List.length_nil, List.take_succ_cons, List.take_zero, StepsH, Nat.reduceAdd, Nat.reduceSub]
    refine ⟨?_, ?_, ?_, ?_, ?_, ?_, ?_, ?_, ?_, ?_, ?_, ?_, ?_, ?_, ?_, trivial⟩
    all_goals
      intro ev w1 hb hev hd
      have ev2 : ev (.tmp 2) = .pointer (some ⟨w.heap.size, 0, none⟩) := hev _ (by simp)
      have ev3 : ev (.tmp 3) = .pointer (some ⟨w.heap.size + 1, 0, none⟩) := hev _ (by simp)
      have evf : ∀ f, ev (.func f) = .func (.func f) #[] #[] := fun f => hev _ (by simp)
      have z0 := (hb.cell (p := ⟨w.heap.size, 0, none⟩) hbz0).trans b0
      have z1 := (hb.cell (p := ⟨X, 1, none⟩) hxz).trans x1
      have HB1 : Hid (Below W0.heap.size W0 w1) := hide ((Below.refl W0.heap.size W0).drew.trans hb)
      have hrf := Below.refl W0.heap.size w1
      clear hev hb
      simp [DepsG, Held.is] at hd
      first
        | (set_option maxHeartbeats 40000 in simp [OpRuns, execOp, go_sem, Held.is, hrf, *]; done)
        | (set_option maxHeartbeats 40000 in simp [OpRuns, execOp, go_sem, Held.is, hrf, *])
    exact (HS1.out _ HB1.out).mono fun e w'' ⟨he, hb8⟩ => ⟨he, hb8.mono HB1.out.size⟩
  · intro f w4 hb hf
    have e19 : f 19 = .pointer (some ⟨X, 1, none⟩) := hf 19 (by simp)
    have e17 : f 17 = .slice A k1 c := hf 17 (by simp)
    have HB4 : Hid (Below W0.heap.size W0 w4) := hide ((Below.refl W0.heap.size W0).drew.trans hb)
    have hl4 := HL0.out.same (S := S) fun k _ hk => HB4.out.block k hk
    have z1 : w4.cell? ⟨X, 1, none⟩ = some (.slice A n c) := box_cell hl4.box 1
    have u1 := box_free hl4.box 1
    obtain ⟨hl5, hc5⟩ := HL0.out.cutMk HB4.out HLN.out.1 k1 HLN.out.2
    have HL5 := hide hl5
    have HC5 := hide hc5
    have bb0 := (HB4.out.cell (p := ⟨w.heap.size, 0, none⟩) hbz0).trans b0
    have bb1 := (HB4.out.cell (p := ⟨w.heap.size + 1, 0, none⟩) hbz1).trans b1
    clear hb hf hl4 hl5 hc5
    simp only [puts, Act.put, List.setIfInBounds_toArray, List.set_cons_succ, List.set_cons_zero]
    rw [e19, e17]
    clear e19 e17
    generalize f 5 = f5
    generalize f 6 = f6
    generalize f 7 = f7
    generalize f 8 = f8
    generalize f 9 = f9
    generalize f 10 = f10
    generalize f 11 = f11
    generalize f 12 = f12
    generalize f 13 = f13
    generalize f 14 = f14
    generalize f 15 = f15
    generalize f 16 = f16
    generalize f 18 = f18
    clear f
    go_upto_region 2 with fail
    obtain ⟨W5, hW5⟩ : ∃ W5, W5 = w4.setCell ⟨X, 1, none⟩ (.slice A k1 c) := ⟨_, rfl⟩
    rw [← hW5] at HL5 HC5 ⊢
    have nX : w.heap.size ≠ X := Nat.ne_of_gt HXN.out
    have nX1 : w.heap.size + 1 ≠ X := by have := HXN.out; omega
    have d0 : W5.cell? ⟨w.heap.size, 0, none⟩ = some (.pointer (some ⟨X, 0, none⟩)) := by rw [hW5]; exact (Chg.setCell (S := fun k => k = X) w4 X 1 _ rfl).cell bb0 nX
    have d1 : W5.cell? ⟨w.heap.size + 1, 0, none⟩ = some (.int .i64 p) := by rw [hW5]; exact (Chg.setCell (S := fun k => k = X) w4 X 1 _ rfl).cell bb1 nX1
    obtain ⟨A2, n2, c2, rfl, hl2, hnc2, hca⟩ := ad_slice HL5.out
    have y2 : W5.cell? ⟨X, 2, none⟩ = some (.slice A2 n2 c2) := box_cell HL5.out.box 2
    have HS2 := hide (fun (V : World) (hb : Below W5.heap.size W5 V) => search2_any w.heap.size X A2 n2 c2 s p V hl2 (by have := HH.out.1; simp only at hl2; omega) ((hb.cell (World.block_lt_of_cell? _ _ d0)).trans d0) ((hb.cell (World.block_lt_of_cell? _ _ d1)).trans d1) ((hb.cell (World.block_lt_of_cell? _ _ y2)).trans y2)
      (fun k hk => by obtain ⟨g, e, h1, h2⟩ := hca k hk; exact ⟨g, e, h1, (hb.cell (World.block_lt_of_cell? _ _ h2)).trans h2⟩) HH.out.2.2)
    have hk2 := s.cntA_le p
    obtain ⟨k2, hk2e⟩ : ∃ k2, k2 = s.cntA p := ⟨_, rfl⟩
    rw [← hk2e] at hk2 HS2
    have HK2 := hide hk2e
    have hk2n : k2 ≤ n2 := by simp only at hl2; omega
    have hkc2 : k2 ≤ c2 := Nat.le_trans hk2n hnc2
    have HLN2 := hide (And.intro hl2 hk2n)
    have hxz5 : X < W5.heap.size := (Array.getElem?_eq_some_iff.1 HL5.out.box).1
    have hbz50 : w.heap.size < W5.heap.size := World.block_lt_of_cell? _ _ d0
    have hbz51 : w.heap.size + 1 < W5.heap.size := World.block_lt_of_cell? _ _ d1
    clear hk2 hk2e hk2n hnc2 hl2 hca bb0 bb1 z1 u1 hW5 b0 b1 x1 HB4 hxz hbz0 hbz1 HS1 HB0 HW0
    refine wp_region_store (G := Below W5.heap.size) ⟨fun w => Below.refl _ w, fun h k => h.trans k⟩ [20, 21, 22, 23, 24, 25, 26, 27, 28, 29, 30, 31, 32, 33, 34] (fun d => match d with
      | 20 => .is (.pointer (some ⟨X, 0, none⟩)) | 21 => .is (.pointer (some ⟨X, 0, none⟩)) | 22 => .is (.pointer (some ⟨X, 0, none⟩)) | 23 => .is (.pointer (some ⟨X, 2, none⟩)) | 24 => .is (.slice A2 n2 c2)
      | 25 => .is (.pointer (some ⟨X, 0, none⟩)) | 26 => .is (.pointer (some ⟨X, 0, none⟩)) | 27 => .is (.pointer (some ⟨X, 2, none⟩)) | 28 => .is (.slice A2 n2 c2) | 29 => .is (.int .i64 n2)
      | 30 => .is (.func (.func 61) #[] #[.pointer (some ⟨w.heap.size, 0, none⟩), .pointer (some ⟨w.heap.size + 1, 0, none⟩)]) | 31 => .is (.int .i64 k2) | 32 => .is (.slice A2 k2 c2)
      | 33 => .is (.pointer (some ⟨X, 0, none⟩)) | 34 => .is (.pointer (some ⟨X, 2, none⟩)) | _ => .any) _ (by kernel_rfl) (by kernel_rfl) rfl (by kernel_rfl) ?_ ?_
    · simp only [List.size_toArray, List.length_cons, List.length_nil, List.take_succ_cons, List.take_zero, StepsH, Nat.reduceAdd, Nat.reduceSub]
      refine ⟨?_, ?_, ?_, ?_, ?_, ?_, ?_, ?_, ?_, ?_, ?_, ?_, ?_, ?_, ?_, trivial⟩
      all_goals
        intro ev w1 hb hev hd
        have ev2 : ev (.tmp 2) = .pointer (some ⟨w.heap.size, 0, none⟩) := hev _ (by simp)
        have ev3 : ev (.tmp 3) = .pointer (some ⟨w.heap.size + 1, 0, none⟩) := hev _ (by simp)
        have evf : ∀ f, ev (.func f) = .func (.func f) #[] #[] := fun f => hev _ (by simp)
        have z0 := (hb.cell (p := ⟨w.heap.size, 0, none⟩) hbz50).trans d0
        have z1 := (hb.cell (p := ⟨X, 2, none⟩) hxz5).trans y2
        have HB1 : Hid (Below W5.heap.size W5 w1) := hide ((Below.refl W5.heap.size W5).drew.trans hb)
        have hrf := Below.refl W5.heap.size w1
        clear hev hb
        simp [DepsG, Held.is] at hd
        first
          | (set_option maxHeartbeats 40000 in simp [OpRuns, execOp, go_sem, Held.is, hrf, *]; done)
          | (set_option maxHeartbeats 40000 in simp [OpRuns, execOp, go_sem, Held.is, hrf, *])
      exact (HS2.out _ HB1.out).mono fun e w'' ⟨he, hb8⟩ => ⟨he, hb8.mono HB1.out.size⟩
    · intro f w6 hb hf
      have e34 : f 34 = .pointer (some ⟨X, 2, none⟩) := hf 34 (by simp)
      have e32 : f 32 = .slice A2 k2 c2 := hf 32 (by simp)
      have HB6 : Hid (Below W5.heap.size W5 w6) := hide ((Below.refl W5.heap.size W5).drew.trans hb)
      have hl6 := HL5.out.same (S := S) fun k _ hk => HB6.out.block k hk
      have z2 : w6.cell? ⟨X, 2, none⟩ = some (.slice A2 n2 c2) := box_cell hl6.box 2
      have u2 := box_free hl6.box 2
      obtain ⟨hl7, hc7⟩ := HL5.out.cutAd HB6.out HLN2.out.1 k2 HLN2.out.2
      have HL7 := hide hl7
      have HC7 := hide hc7
      have dd0 := (HB6.out.cell (p := ⟨w.heap.size, 0, none⟩) hbz50).trans d0
      clear hb hf hl6 hl7 hc7
      simp only [puts, Act.put, List.setIfInBounds_toArray, List.set_cons_succ, List.set_cons_zero]
      rw [e34, e32]
      clear e34 e32
      generalize f 20 = f20
      generalize f 21 = f21
      generalize f 22 = f22
      generalize f 23 = f23
      generalize f 24 = f24
      generalize f 25 = f25
      generalize f 26 = f26
      generalize f 27 = f27
      generalize f 28 = f28
      generalize f 29 = f29
      generalize f 30 = f30
      generalize f 31 = f31
      generalize f 33 = f33
      clear f
      go_upto_region 3 with fail
      obtain ⟨W7, hW7⟩ : ∃ W7, W7 = w6.setCell ⟨X, 2, none⟩ (.slice A2 k2 c2) := ⟨_, rfl⟩
      rw [← hW7] at HL7 HC7 ⊢
      have g0 : W7.cell? ⟨w.heap.size, 0, none⟩ = some (.pointer (some ⟨X, 0, none⟩)) := by rw [hW7]; exact (Chg.setCell (S := fun k => k = X) w6 X 2 _ rfl).cell dd0 nX
      have g3 : W7.cell? ⟨X, 3, none⟩ = some (.int .i64 s.time) := box_cell HL7.out.box 3
      have h3 := box_free HL7.out.box 3
      have h37 := box_free HL7.out.box 1
      clear hW7 dd0 z2 u2 d0 d1 y2 hxz5 hbz50 hbz51 HS2 HB6
      go_upto_region 4 with fail
      obtain ⟨hl8, hc8⟩ := HL7.out.setTime (-1099511627776)
      obtain ⟨W8, hW8⟩ : ∃ W8, W8 = W7.setCell ⟨X, 3, none⟩ (.int .i64 (-1099511627776)) := ⟨_, rfl⟩
      rw [← hW8] at hl8 hc8 ⊢
      have q0 : W8.cell? ⟨w.heap.size, 0, none⟩ = some (.pointer (some ⟨X, 0, none⟩)) := by rw [hW8]; exact (Chg.setCell (S := fun k => k = X) W7 X 3 _ rfl).cell g0 nX
      have q1 : W8.cell? ⟨X, 1, none⟩ = some (.slice A k1 c) := box_cell hl8.box 1
      have q3 : W8.cell? ⟨X, 3, none⟩ = some (.int .i64 (-1099511627776)) := box_cell hl8.box 3
      have r3 := box_free hl8.box 3
      have HC8 : Hid (Chg S w W8) := hide (((((Chg.of_below HB0'.out).then HC5.out).then HC7.out)).then hc8)
      have HL8 := hide hl8
      clear hl8 hc8 hW8 g0 g3 h3 h37 HL7 HC7 HL5 HC5
      cases k1 with
      | zero =>
        go_wp2_with fail
        go_end0
        have e : s.cut p = ⟨s.every, s.marks.take 0, s.adds.take k2, -1099511627776⟩ := by
          unfold Ix.St.cut
          rw [← HK1.out, ← HK2.out]; rfl
        rw [e]
        exact ⟨rfl, ⟨_, _, HL8.out⟩, HC8.out⟩
      | succ k =>
        obtain ⟨g, t, hgA, hgt, hlt⟩ := last_cell HL8.out (show (s.marks.take (k + 1)).length = k + 1 by have h1 := HLN.out.1; have h2 := HLN.out.2; rw [List.length_take]; omega)
        subst hgA
        have hwk : IntKind.i64.wrap (k : Int) = (k : Int) := by have := HLN.out.1; have := HLN.out.2; rw [IntKind.wrap_i64]; omega
        have HLT := hide hlt
        clear hlt
        go_upto_region 6 with fail
        go_region
        all_goals
          go_wp2_with fail
          go_end0
          obtain ⟨hl9, hc9⟩ := HL8.out.setTime t
          have e : s.cut p = ⟨s.every, s.marks.take (k + 1), s.adds.take k2, t⟩ := by
            unfold Ix.St.cut
            rw [← HK1.out, ← HK2.out]
            exact congrArg _ HLT.out
          rw [e]
          exact ⟨rfl, ⟨_, _, hl9.same fun _ _ _ => rfl⟩, (HC8.out.then hc9).then ⟨rfl, rfl, rfl, Nat.le_refl _, fun _ _ _ => rfl⟩⟩
end Go.Proofs.YteeadlefbehhfaaDoor

namespace Go.Proofs.YteeadlefbehhfaaDoor.Ix

def mkC (z : Nat → Int) (i : Nat) : Mark := ⟨(i : Int), (i : Int), posF z i⟩
def adC (z : Nat → Int) (i : Nat) : Ad := ⟨(i : Int), posF z i⟩
def stC (e : Int) (z : Nat → Int) (k : Nat) : St := ⟨e, (mksF e z k).map (mkC z), (List.range k).map (adC z), timeF k⟩
variable {e : Int} {z : Nat → Int}
theorem stC_zero (e : Int) (z : Nat → Int) : stC e z 0 = new e := rfl
theorem addC (he : 1 ≤ e) (hz : ∀ i, 1 ≤ z i ∧ z i ≤ 90) (k : Nat) (hk : k ≤ 1000) : add (stC e z k) (k : Int) (k : Int) (posF z k) (z k) = (none, stC e z (k + 1)) := by
  have hp := posF_le hz k
  have hb : behind (stC e z k).adds (k : Int) (posF z k) := by
    intro a ha
    cases k with
    | zero => cases ha
    | succ k =>
      obtain rfl := (last_range (adC z) k a).1 ha
      have := posF_lt (z := z) (fun i => (hz i).1) (show k < k + 1 by omega)
      simp only [adC]; omega
  have hd : due (stC e z k) (posF z k) ↔ lm e z k = k := by
    cases k with
    | zero => exact ⟨fun _ => rfl, fun _ m hm => by cases hm⟩
    | succ k =>
      have hl : (stC e z (k + 1)).marks.getLast? = some (mkC z (lm e z k)) := (last_map _ _ _).2 ⟨_, mksF_last k, rfl⟩
      have hle := lm_le (e := e) (z := z) k
      constructor
      · intro h
        have := h _ hl
        exact if_pos this
      · intro h m hm
        rw [hl] at hm
        cases hm
        by_cases c : e ≤ posF z (k + 1) - posF z (lm e z k)
        · exact c
        · have : lm e z (k + 1) = lm e z k := if_neg c
          omega
  have hg : good (stC e z k) (k : Int) (k : Int) (posF z k) (z k) := ⟨⟨by omega, by omega⟩, ⟨by omega, by omega⟩, (hz k).1, ⟨by omega, by omega⟩, hb⟩
  have ht : max (timeF k) (k : Int) = timeF (k + 1) := by
    cases k with
    | zero => rfl
    | succ k => show max (k : Int) ((k + 1 : Nat) : Int) = ((k + 1 : Nat) : Int); omega
  unfold add
  rw [if_pos hg]
  unfold put
  rw [show max (stC e z k).time (k : Int) = timeF (k + 1) from ht]
  by_cases h : lm e z k = k
  · rw [if_pos (hd.2 h)]
    simp only [stC, mksF_succ, if_pos h, List.map_append, List.map_cons, List.map_nil, List.range_succ, mkC, adC]
    rfl
  · rw [if_neg (fun c => h (hd.1 c))]
    simp only [stC, mksF_succ, if_neg h, List.append_nil, List.map_append, List.map_cons, List.map_nil, List.range_succ, adC]
theorem cntM_eq (s : St) (p : Int) : s.cntM p = s.marks.countP (fun m => !decide (p ≤ m.pos)) := countP_getD _ (fun m : Mark => !decide (p ≤ m.pos)) s.marks
theorem cntA_eq (s : St) (p : Int) : s.cntA p = s.adds.countP (fun m => !decide (p ≤ m.pos)) := countP_getD _ (fun m : Ad => !decide (p ≤ m.pos)) s.adds
theorem mksF_at (k n : Nat) (h : k ≤ n) : ∃ l2, mksF e z n = mksF e z k ++ l2 ∧ ∀ j ∈ l2, k ≤ j := by
  obtain ⟨d, rfl⟩ : ∃ d, n = k + d := ⟨n - k, by omega⟩
  refine ⟨((List.range d).map (k + ·)).filter (fun j => lm e z j == j), ?_, fun j hj => ?_⟩
  · unfold mksF
    rw [List.range_add, List.filter_append]
  · obtain ⟨a, _, rfl⟩ := List.mem_map.1 (List.mem_filter.1 hj).1
    omega
theorem posF_mono (hz : ∀ i, 1 ≤ z i) {i j : Nat} (h : i ≤ j) : posF z i ≤ posF z j := by
  by_cases e : i = j
  · subst e; exact Int.le_refl _
  · exact Int.le_of_lt (posF_lt hz (by omega))
theorem marks_cut (hz : ∀ i, 1 ≤ z i) (k n : Nat) (h : k ≤ n) : (stC e z n).marks.take ((stC e z n).cntM (posF z k)) = (stC e z k).marks := by
  obtain ⟨l2, hl, h2⟩ := mksF_at (e := e) (z := z) k n h
  have hc : (stC e z n).cntM (posF z k) = (mksF e z k).length := by
    rw [cntM_eq]
    show ((mksF e z n).map (mkC z)).countP _ = _
    rw [List.countP_map, hl, List.countP_append]
    have a1 : (mksF e z k).countP ((fun m : Mark => !decide (posF z k ≤ m.pos)) ∘ mkC z) = (mksF e z k).length := by
      rw [List.countP_eq_length]
      intro j hj
      have := posF_lt hz (mksF_lt hj)
      show (!decide (posF z k ≤ posF z j)) = true
      rw [decide_eq_false (by omega)]; rfl
    have a2 : l2.countP ((fun m : Mark => !decide (posF z k ≤ m.pos)) ∘ mkC z) = 0 := by
      rw [List.countP_eq_zero]
      intro j hj
      have := posF_mono hz (h2 j hj)
      show ¬ (!decide (posF z k ≤ posF z j)) = true
      rw [decide_eq_true (by omega)]; decide
    rw [a1, a2]; rfl
  rw [hc]
  show ((mksF e z n).map (mkC z)).take _ = (mksF e z k).map (mkC z)
  rw [hl, List.map_append, List.take_append_of_le_length (by simp), List.take_of_length_le (by simp)]
theorem adds_cut (hz : ∀ i, 1 ≤ z i) (k n : Nat) (h : k ≤ n) : (stC e z n).adds.take ((stC e z n).cntA (posF z k)) = (stC e z k).adds := by
  obtain ⟨d, rfl⟩ : ∃ d, n = k + d := ⟨n - k, by omega⟩
  have hl : (stC e z (k + d)).adds = (List.range k).map (adC z) ++ ((List.range d).map (k + ·)).map (adC z) := by
    show (List.range (k + d)).map (adC z) = _
    rw [List.range_add, List.map_append]
  have hc : (stC e z (k + d)).cntA (posF z k) = k := by
    rw [cntA_eq, hl, List.countP_append, List.countP_map, List.countP_map]
    have a1 : (List.range k).countP ((fun m : Ad => !decide (posF z k ≤ m.pos)) ∘ adC z) = (List.range k).length := by
      rw [List.countP_eq_length]
      intro j hj
      have := posF_lt hz (List.mem_range.1 hj)
      show (!decide (posF z k ≤ posF z j)) = true
      rw [decide_eq_false (by omega)]; rfl
    have a2 : ((List.range d).map (k + ·)).countP ((fun m : Ad => !decide (posF z k ≤ m.pos)) ∘ adC z) = 0 := by
      rw [List.countP_eq_zero]
      intro j hj
      obtain ⟨a, _, rfl⟩ := List.mem_map.1 hj
      have := posF_mono hz (show k ≤ k + a by omega)
      show ¬ (!decide (posF z k ≤ posF z (k + a))) = true
      rw [decide_eq_true (by omega)]; decide
    rw [a1, a2, List.length_range]; rfl
  rw [hc, hl]
  show _ = (List.range k).map (adC z)
  rw [List.take_append_of_le_length (by simp), List.take_of_length_le (by simp)]
/-- What is left behind a cut at batch k. -/
def cutC (e : Int) (z : Nat → Int) (k : Nat) : St := ⟨e, (stC e z k).marks, (stC e z k).adds, lastTime (stC e z k).marks⟩
theorem cut_stC (hz : ∀ i, 1 ≤ z i) (k n : Nat) (h : k ≤ n) : (stC e z n).cut (posF z k) = cutC e z k := by
  unfold St.cut cutC
  rw [marks_cut hz k n h, adds_cut hz k n h]; rfl
theorem add_cutC (hz : ∀ i, 1 ≤ z i ∧ z i ≤ 90) (k : Nat) (hk : k ≤ 60) : (add (cutC e z k) 1000 0 1048576 5).1 = none := by
  have hb : behind (cutC e z k).adds 1000 1048576 := by
    intro a ha
    cases k with
    | zero => cases ha
    | succ k =>
      obtain rfl := (last_range (adC z) k a).1 ha
      have := posF_le hz k
      simp only [adC]; omega
  have hg : good (cutC e z k) 1000 0 1048576 5 := ⟨⟨by omega, by omega⟩, ⟨by omega, by omega⟩, by omega, ⟨by omega, by omega⟩, hb⟩
  unfold add
  rw [if_pos hg]
theorem mono_marksC (hz : ∀ i, 1 ≤ z i) (n : Nat) (p : Int) : ∀ a b, a ≤ b → b < (stC e z n).marks.length → p ≤ ((stC e z n).marks.getD a ⟨0, 0, 0⟩).pos → p ≤ ((stC e z n).marks.getD b ⟨0, 0, 0⟩).pos := by
  intro a b hab hb ha
  have hb' : b < (mksF e z n).length := by simpa [stC] using hb
  have hs : (mksF e z n).Pairwise (· < ·) := List.Pairwise.filter _ List.pairwise_lt_range
  have ea : ((stC e z n).marks.getD a ⟨0, 0, 0⟩) = mkC z ((mksF e z n)[a]'(by omega)) := by simp [stC, List.getD, show a < (mksF e z n).length by omega]
  have eb : ((stC e z n).marks.getD b ⟨0, 0, 0⟩) = mkC z ((mksF e z n)[b]'hb') := by simp [stC, List.getD, hb']
  rw [ea] at ha
  rw [eb]
  by_cases e1 : a = b
  · subst e1; exact ha
  · have := posF_mono hz (Nat.le_of_lt (List.pairwise_iff_getElem.1 hs a b (by omega) hb' (by omega)))
    simp only [mkC] at ha ⊢
    omega
theorem mono_addsC (hz : ∀ i, 1 ≤ z i) (n : Nat) (p : Int) : ∀ a b, a ≤ b → b < (stC e z n).adds.length → p ≤ ((stC e z n).adds.getD a ⟨0, 0⟩).pos → p ≤ ((stC e z n).adds.getD b ⟨0, 0⟩).pos := by
  intro a b hab hb ha
  have hb' : b < n := by simpa [stC] using hb
  have ea : ((stC e z n).adds.getD a ⟨0, 0⟩) = adC z a := by simp [stC, List.getD, show a < n by omega]
  have eb : ((stC e z n).adds.getD b ⟨0, 0⟩) = adC z b := by simp [stC, List.getD, hb']
  rw [ea] at ha
  rw [eb]
  have := posF_mono hz hab
  simp only [adC] at ha ⊢
  omega
theorem Ok.cut {s : St} (h : Ok s) (p : Int) : Ok (s.cut p) := by
  refine ⟨h.every, ?_, fun m hm => h.marks m (List.mem_of_mem_take hm), fun a ha => h.adds a (List.mem_of_mem_take ha)⟩
  show okT (lastTime (s.marks.take (s.cntM p)))
  unfold lastTime
  cases hl : (s.marks.take (s.cntM p)).getLast? with
  | none => exact ⟨by show (-1099511627776 : Int) ≤ -1099511627776; omega, by show (-1099511627776 : Int) ≤ 1099511627776; omega⟩
  | some m => exact (h.marks m (List.mem_of_mem_take (List.mem_of_getLast? hl))).2.1
end Go.Proofs.YteeadlefbehhfaaDoor.Ix
