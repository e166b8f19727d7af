/-
  The files that an iterator hands over, gathered in a row: slices.AppendSeq, slices.Collect.
-/
import Derived.Test.YtnjcngmmgceijaaDoorDkX
import Derived.Test.YtnjcngmmgceijaaDoorSeqX
import Derived.Shelf.Abstract
namespace Go.Proofs.YtnjcngmmgceijaaDoor
open Go.RowKit Go.Maps Go.Sort

abbrev fileE (i : Nat) : Value := .pointer (some ⟨i, 0, none⟩)
theorem ptr_info : (Tryd.prog.info? 63).map (fun i => (i.zero, i.size, i.bytes)) = some (some (.pointer none), 1, 8) := by kernel_rfl
theorem ptrs_type : Tryd.prog.underlying 74 = some (.slice 63) := by kernel_rfl

/-- Between two rounds: what has come lies in a row that the box leads to. -/
structure Gath (w0 : World) (Bs : Nat) (pre : List Nat) (W : World) : Prop where
  box : ∃ v, W.heap[Bs]? = some (.cells #[v] 74 (0, 0)) ∧ W.ownsRow w0.heap.size 63 1 v pre.length (pre.map fileE)
  below : Below w0.heap.size w0 W
theorem Gath.step {w0 W W' : World} {Bs : Nat} {pre : List Nat} {row : Option Nat} (h : Gath w0 Bs pre W) (hg : W.grownBy W' row) (hr : ∀ r, row = some r → w0.heap.size ≤ r ∧ ∃ o : Obj, W.heap[r]? = some o ∧ o.isCells = false) : Gath w0 Bs pre W' := by
  obtain ⟨v, h1, h2⟩ := h.box
  have nb : ∀ k (c : Array Value) (t : TypeId) (z : Nat × Nat), W.heap[k]? = some (.cells c t z) → some k ≠ row := fun k c t z hk e => by
    obtain ⟨_, o, ho, hc⟩ := hr k e.symm
    rw [hk] at ho
    injection ho with ho
    subst ho
    cases hc
  refine ⟨⟨v, (hg.block Bs (Array.getElem?_eq_some_iff.1 h1).1 (nb _ _ _ _ h1)).trans h1, h2.kept hg ?_⟩, h.below.grown hg h.below.size fun k e => (hr k e).1⟩
  rcases h2.2 with ⟨rfl, _⟩ | ⟨g, cap, cur, rfl, _, hgb, _⟩
  · exact .inl rfl
  · exact .inr fun e => nb g _ _ _ hgb e

theorem values_seq (F : Fence) (n : Nat) (h8 : F.fn 63) (hro : F.round = none) (hn : 1 ≤ n) (Bm b nn : Nat) (f : Dk.Dir) (w : World) (hm : w.cell? ⟨Bm, 0, none⟩ = some (.map (some b))) (h : NamesAt w b nn f) :
    ∃ N, N ≤ nn ∧ SeqWith F n Tryd.prog 63 #[.pointer (some ⟨Bm, 0, none⟩)] (fun i => #[fileE i]) (fun _ _ _ => True) KeepsWalks (fun xs => Dk.Vals f xs ∧ xs.length ≤ N) (fun _ => True) N w := by
  obtain ⟨D0, hown, hat⟩ := h.ex
  refine ⟨Maps.size D0, hown.size_le, fun l J Jx W hW hJ _ hY h0 => ?_⟩
  have hBm : Bm < w.heap.size := World.block_lt_of_cell? w _ hm
  have hown' : W.ownsMap Tryd.prog 9 ptrE b nn D0 := by
    have hbl := hown.lt
    obtain ⟨es, clock, hb, Ft, hs, hD⟩ := hown
    exact ⟨es, clock, (hW.block b hbl).trans hb, Ft, hs, hD⟩
  exact values1_in F n h8 hro hn l Bm b nn f D0 J Jx (fun pre x W1 hj hl => hY pre x W1 hj trivial hl) W hJ ((hW.cell (p := ⟨Bm, 0, none⟩) hBm).trans hm) hown' hat h0

set_option maxRecDepth 100000 in
set_option maxHeartbeats 2000000 in
theorem appendSeq_in (F : Fence) (n : Nat) (h11 : F.fn 79) (hro : F.round = none) (hn : 3 ≤ n) (Bm : Nat) (f : Dk.Dir) (N : Nat) (hN : N ≤ 1099511627776) (w : World) (hFg : F.fn 63)
    (hseq : SeqWith F (n - 1) Tryd.prog 63 #[.pointer (some ⟨Bm, 0, none⟩)] (fun i => #[fileE i]) (fun _ _ _ => True) KeepsWalks (fun xs => Dk.Vals f xs ∧ xs.length ≤ N) (fun _ => True) N w) :
    CallsIn F n Tryd.prog 79 #[.slice none 0 0, .func (.func 63) #[] #[.pointer (some ⟨Bm, 0, none⟩)]] w fun e w' =>
      ∃ v xs, e = .returned v ∧ (Dk.Vals f xs ∧ xs.length ≤ N) ∧ w'.ownsRow w.heap.size 63 1 v xs.length (xs.map fileE) ∧ Below w.heap.size w w' := by
  obtain ⟨i0, hi, hz0, hz1, hz2⟩ := info_parts ptr_info
  refine callsIn_of_wp_marks Tryd.func79 rfl h11 ?_ hro
  simp only [Tryd.ntmps79, List.size_toArray, List.length_cons, List.length_nil, Nat.reduceAdd, Nat.reduceSub, Array.replicate_succ, Array.replicate_zero, List.push_toArray, List.append_toArray, List.nil_append, List.cons_append]
  gi_wp2
  obtain ⟨W0, hW0⟩ : ∃ W0, w.alloc (.cells #[.slice none 0 0] 74) = W0 := ⟨_, rfl⟩
  have hs0 : W0.heap.size = w.heap.size + 1 := by rw [← hW0]; simp
  have hv0 : W0.heap[w.heap.size]? = some (.cells #[.slice none 0 0] 74 (0, 0)) := by rw [← hW0]; exact World.alloc_heap_new w _
  have hb0 : Below w.heap.size w W0 := by rw [← hW0]; exact (Below.refl _ w).alloc (Nat.le_refl _) _
  rw [hW0]
  have HS0 := hide hs0
  have HB0 := hide hb0
  clear hW0
  have hI0 : Gath w w.heap.size [] W0 := ⟨⟨_, hv0, World.ownsRow_nil _ _ _ _⟩, hb0⟩
  obtain ⟨a0, ha0⟩ : ∃ a0 : Act, a0 = { tmps := #[.slice none 0 0, .func (.func 63) #[] #[.pointer (some ⟨Bm, 0, none⟩)], .pointer (some ⟨w.heap.size, 0, none⟩), undef, .slice none 0 0, undef, .func (.func 63) #[] #[.pointer (some ⟨Bm, 0, none⟩)], undef, undef, undef, undef, undef, undef], defers := [] } := ⟨_, rfl⟩
  rw [← ha0]
  refine range_keep hro (by omega) (gf := 63) (lb := #[.pointer (some ⟨Bm, 0, none⟩)]) (by rw [ha0]; rfl) hFg (enters_of Tryd.func63 (by kernel_rfl) rfl) hseq (fun h1 h2 => h1.trans h2) (fun W l o o' _ h1 h2 => KeepsWalks.putObj _ h1 h2) hb0 (fun _ => rfl)
    (Gath w w.heap.size)
    (fun _ _ _ => False)
    (fun s A B row hs hg hr => hs.step hg fun r e => ⟨by have := (hr r e).1; omega, (hr r e).2⟩)
    (fun _ _ _ _ _ hs _ _ => hs)
    hI0
    (fun pre x a' W => a' = { tmps := (a0.tmps.setIfInBounds 7 (fileE x)).setIfInBounds 5 (fileE x), defers := [] })
    (fun pre x a' s A B row hs hg hr => hs) ?assign ?body ?done ?stop
  case assign =>
    intro l pre x W K hI hG hK
    rw [ha0]
    gi_wp2_with (rw [Oper.semAt_eq _ _ _ (fun c h => by cases h)]; go_simp; try go_bits)
    refine hK _ _ ?_ hI (KeepsOthers.refl _) (KeepsWalks.refl _)
    rw [ha0]
    rfl
  case stop => rintro D c pre W _ _ h _; exact h.elim
  case body =>
    rintro l pre x a' W hI rfl hlt
    rw [ha0]
    obtain ⟨v, hv, hrow⟩ := hI.box
    have hc2 := box_cell hv 0
    have hf2 := box_free hv 0
    have HHV := hide hv
    have HRO := hide hrow
    have HBL := hide hI.below
    have hne : ∀ (k : Nat) (c : Array Value), W.heap[k]? = some (.cells c 74 (0, 0)) → some k ≠ v.ownBlock := fun k c h1 e => by
      rcases hrow.2 with ⟨rfl, _⟩ | ⟨g, cap, cur, rfl, _, hgb, _⟩
      · cases e
      · injection e with e
        exact types_ne h1 hgb (by decide) e
    have HNE := hide hne
    have hlW : w.heap.size < W.heap.size := (Array.getElem?_eq_some_iff.1 hv).1
    clear hv hrow hne hI
    simp only [List.setIfInBounds_toArray, List.set_cons_succ, List.set_cons_zero]
    gi_wp2_with (first
      | (gi_at_builtin; refine wpListIn_append_own _ rfl _ _ 74 rfl w.heap.size 63 i0 (.pointer none) 1 8 ptrs_type hi hz0 hz1 hz2 rfl (by decide) _ _ _ rfl (HRO.out.alloc _) ⟨W.heap.size, 0, none⟩ 1 1 [fileE x] rfl rfl (cell_one_new _ _ _) (by simp [Value.oneCell', fileE]) (by simp only [maxLen]; omega) (by omega) (by have := HBL.out.size; simp; omega) ?_; intro v' w3 hown' hg3 hnil3
         have hv3 : w3.heap[w.heap.size]? = some (.cells #[v] 74 (0, 0)) := (hg3.block w.heap.size (by simp; omega) (HNE.out _ _ HHV.out)).trans ((Below.heap_alloc _ _ w.heap.size hlW).trans HHV.out)
         have hc3 := box_cell hv3 0
         have hf3 := box_free hv3 0
         obtain ⟨g', cap', rfl⟩ : ∃ g' cap', v' = .slice (some ⟨g', 0, none⟩) (pre.length + 1) cap' := by
           rcases hown'.2 with ⟨_, h0⟩ | ⟨g', cap', _, e, _⟩
           · exact absurd h0 (by omega)
           · exact ⟨g', cap', e⟩
         have HV3 := hide hv3
         have HOW := hide hown'
         have HG3 := hide hg3
         clear hv3 hown' hg3 hnil3
         go_frame)
      | (rw [Oper.semAt_eq _ _ _ (fun c h => by cases h)]; go_simp; try go_bits))
    have hne3 : (Value.slice (some ⟨g', 0, none⟩) (pre.length + 1) cap').ownBlock ≠ some w.heap.size := fun e => by
      injection e with e
      rcases HOW.out.2 with ⟨_, h0⟩ | ⟨g2, _, _, e2, _, hgb, _⟩
      · omega
      · injection e2 with e2
        injection e2 with e2
        injection e2 with e2
        subst e2
        exact types_ne HV3.out hgb (by decide) e.symm
    have hcl : ∀ (j : Nat) (o : Obj), v.ownBlock = some j → (W.alloc (.cells #[fileE x] 63)).heap[j]? = some o → o.isCells = true := fun j o hj ho => by
      rcases (HRO.out.alloc (.cells #[fileE x] 63)).2 with ⟨rfl, _⟩ | ⟨g2, _, _, rfl, _, hgb, _⟩
      · cases hj
      · injection hj with hj
        subst hj
        rw [hgb] at ho
        injection ho with ho
        subst ho
        rfl
    have hg3' : (W.alloc (.cells #[fileE x] 63)).grownBy w3 v.ownBlock := HG3.out
    have hko : KeepsOthers W (w3.setCell ⟨w.heap.size, 0, none⟩ (.slice (some ⟨g', 0, none⟩) (pre.length + 1) cap')) := ((KeepsOthers.alloc W _).trans (KeepsOthers.of_grownBy hg3' hcl)).trans (KeepsOthers.setCell _ _ _)
    have hb3 : Below w.heap.size w w3 := (HBL.out.alloc HBL.out.size _).grown hg3' (by have := HBL.out.size; simp; omega) (fun k e => (HRO.out.lt k e).1)
    refine ⟨hko, hko.walks, ⟨⟨_, heap_setCell_same w3 w.heap.size 0 _ _ _ HV3.out, ?_⟩, ⟨hb3.os, hb3.tape, hb3.output, by rw [World.size_setCell]; exact hb3.size, fun k hk => (Below.heap_setCell _ _ _ _ (by show k ≠ w.heap.size; omega)).trans (hb3.block k hk)⟩⟩⟩
    have h9 := ownsRow_setCell_other HOW.out (a := ⟨w.heap.size, 0, none⟩) hne3 (.slice (some ⟨g', 0, none⟩) (pre.length + 1) cap')
    rw [List.length_append, List.map_append]
    exact h9
  case done =>
    rintro D xs W hD hS hI hK
    obtain ⟨v, hv, hrow⟩ := hI.box
    have hc2 := box_cell hv 0
    rw [ha0]
    gi_wp2
    have hDW : v.ownBlock = none ∨ v.ownBlock ≠ some D := by
      rcases hrow.2 with ⟨rfl, _⟩ | ⟨g2, _, _, rfl, _, hgb, _⟩
      · exact .inl rfl
      · refine .inr fun e => ?_
        injection e with e
        subst e
        rw [hgb] at hK
        cases hK
    refine ⟨by simp, .inl ⟨_, _, rfl, run_takeDeferred hK, ?_⟩⟩
    exact ⟨_, results_tmp rfl _ _ _, v, xs, rfl, hS, hrow.kept (grownBy_putObj' W D _) hDW, hI.below.grown (grownBy_putObj' W D _) hI.below.size (fun k e => by cases e; omega)⟩
end Go.Proofs.YtnjcngmmgceijaaDoor
