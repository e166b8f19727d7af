/-
  A row of files sorted by their births: slices.SortFunc with the order of elderFirst.
  The files of a map of names, the elder first: slices.SortedFunc, elderFirst.
  The files that have a name, the elder first: elderFirst.
-/
import Derived.Test.YtnjcngmmgceijaaDoorDkSF
import Derived.Shelf.SlSortCmp.NoneTotal
namespace Go.Proofs.YtnjcngmmgceijaaDoor
open Go.RowKit Go.Maps Go.Sort Go.Shelf

section
variable {α : Type} [Inhabited α] (enc : α → Value)
theorem sorted_heap {w : World} {g n : Nat} {os : Array Obj} {cur : Array Value} {e : TypeId} {fr : Nat × Nat} (d : Array α) (hb : w.heap[g]? = some (.cells cur e fr)) :
    (sortWorld enc w g 0 n d os).heap[g]? = some (.cells (putCells enc 0 d cur) e fr) := by
  have hg : g < w.heap.size := (Array.getElem?_eq_some_iff.1 hb).1
  unfold sortWorld
  rw [heap_grow_old _ _ (by simpa using hg)]
  simp [putRow, mapBlock, Sort.ahead, Array.getElem?_modify, hb, onCells]
theorem sorted_other {w : World} {g n : Nat} {os : Array Obj} (d : Array α) (k : Nat) (hk : k < w.heap.size) (hne : k ≠ g) : (sortWorld enc w g 0 n d os).heap[k]? = w.heap[k]? := by
  unfold sortWorld
  rw [heap_grow_old _ _ (by simpa using hk)]
  simp [putRow, mapBlock, Sort.ahead, Array.getElem?_modify, hne.symm]
theorem sorted_size {w : World} {g n : Nat} {os : Array Obj} (d : Array α) : w.heap.size ≤ (sortWorld enc w g 0 n d os).heap.size := by
  unfold sortWorld
  simp [grow]
theorem sorted_take (cur : Array Value) (ts : List α) (h : ts.length ≤ cur.size) : (putCells enc 0 ts.toArray cur).toList.take ts.length = ts.map enc := by
  apply List.ext_getElem?
  intro j
  by_cases hj : j < ts.length
  · rw [List.getElem?_take_of_lt hj, Array.getElem?_toList]
    simp [putCells, hj, show j < cur.size by omega]
  · rw [List.getElem?_take_eq_none (by omega), List.getElem?_eq_none (by simp; omega)]
end

theorem cmp_order {α : Type} (bn : α → Int) : SWO (ltOf fun x y : α => cmpI (bn x) (bn y)) := by
  have key : ∀ x y : α, ltOf (fun x y : α => cmpI (bn x) (bn y)) x y = decide (bn x < bn y) := fun x y => by
    unfold ltOf cmpI
    by_cases h1 : bn x < bn y
    · simp [h1]
    · by_cases h2 : bn y < bn x
      · simp [h1, h2]
      · simp [h1, h2]
  refine ⟨fun x => ?_, fun x y z h1 h2 => ?_, fun x y z h1 h2 => ?_⟩
  · rw [key]; simp
  · rw [key] at h1 h2 ⊢; simp at h1 h2 ⊢; omega
  · rw [key] at h1 h2 ⊢; simp at h1 h2 ⊢; omega

/-- A file whose birth is known, apart from the row. -/
abbrev El (w : World) (g : Nat) (bn : Nat → Int) : Type := { i : Nat // i ≠ g ∧ i < w.heap.size ∧ w.cell? ⟨i, 0, none⟩ = some (.int .i64 (bn i)) }

theorem cell_of_heap {w w' : World} {i : Nat} (h : w'.heap[i]? = w.heap[i]?) (k : Nat) : w'.cell? ⟨i, k, none⟩ = w.cell? ⟨i, k, none⟩ := by simp [World.cell?, h]

theorem els_of {w : World} {g : Nat} {bn : Nat → Int} : ∀ xs : List Nat, (∀ x ∈ xs, x ≠ g ∧ x < w.heap.size ∧ w.cell? ⟨x, 0, none⟩ = some (.int .i64 (bn x))) → ∃ es : List (El w g bn), es.map (·.1) = xs
  | [], _ => ⟨[], rfl⟩
  | x :: xs, h => by
    obtain ⟨es, he⟩ := els_of xs fun y hy => h y (List.mem_cons_of_mem _ hy)
    exact ⟨⟨x, h x List.mem_cons_self⟩ :: es, by rw [List.map_cons, he]⟩

theorem sort_any (base g cap n : Nat) (xs : List Nat) (bn : Nat → Int) (w : World) (hrow : w.ownsRow base 63 1 (.slice (some ⟨g, 0, none⟩) n cap) n (xs.map fileE)) (hn : xs.length = n) (h0 : xs ≠ []) (hsz : n < 1099511627776)
    (hb : ∀ x ∈ xs, x ≠ g ∧ x < w.heap.size ∧ w.cell? ⟨x, 0, none⟩ = some (.int .i64 (bn x))) :
    Calls Tryd.prog 62 #[.slice (some ⟨g, 0, none⟩) n cap, .func (.func 54) #[] #[]] w fun e w' => e = .returned (.tuple #[]) ∧
      ∃ ys : List Nat, ys.Perm xs ∧ ys.Pairwise (fun a b => bn a ≤ bn b) ∧ w'.ownsRow base 63 1 (.slice (some ⟨g, 0, none⟩) n cap) n (ys.map fileE) ∧ Chg (fun k => k = g) w w' := by
  subst hn
  obtain ⟨es, rfl⟩ := els_of (w := w) (g := g) (bn := bn) xs hb
  obtain ⟨x0, es', rfl⟩ : ∃ x0 es', es = x0 :: es' := by cases es with | nil => exact absurd rfl h0 | cons a b => exact ⟨a, b, rfl⟩
  letI : Inhabited (El w g bn) := ⟨x0⟩
  generalize hes : x0 :: es' = es at *
  obtain ⟨cur, hgb, hle, hmax, hcs, htk⟩ : ∃ cur, w.heap[g]? = some (.cells cur 63 (0, 0)) ∧ (es.map (·.1)).length ≤ cap ∧ cap ≤ maxLen ∧ cur.size = cap * 1 ∧ base ≤ g := by
    rcases hrow.2 with ⟨h, _⟩ | ⟨g', cap', cur, h, h1, h2, h3, h4, h5, _⟩
    · cases h
    · injection h with e1 e2 e3
      injection e1 with e1
      injection e1 with e1
      subst e1 e3
      exact ⟨cur, h2, h3, h4, h5, h1⟩
  have hlt : g < w.heap.size := (Array.getElem?_eq_some_iff.1 hgb).1
  have hH : Holds (fun x : El w g bn => fileE x.1) w g 0 es.toArray := fun j hj => by
    have hj' : j < es.length := by simpa using hj
    refine ⟨?_, ?_⟩
    · rw [hrow.cellAt (0 + j) (by simp; omega), getElem!_pos _ j hj]
      simp [hj']
    · exact hrow.frozenAt (0 + j)
  have hcmp : CmpLays1 Tryd.prog 54 #[] (fun x : El w g bn => fileE x.1) (fun x y => cmpI (bn x.1) (bn y.1)) g 0 es.toArray.size w := CmpReads.lays fun m os dk _ x y => by
    have hx := (cell_of_heap (sorted_other (fun x : El w g bn => fileE x.1) (n := m) (os := os) dk x.1 x.2.2.1 x.2.1) 0).trans x.2.2.2
    have hy := (cell_of_heap (sorted_other (fun x : El w g bn => fileE x.1) (n := m) (os := os) dk y.1 y.2.2.1 y.2.1) 0).trans y.2.2.2
    exact elder_any x.1 y.1 (bn x.1) (bn y.1) _ hx hy
  have hc := Any.slices_SortFunc lay_sortF (fun x : El w g bn => fileE x.1) (fun x => rfl) (fun x y => cmpI (bn x.1) (bn y.1)) (cmp_order fun x : El w g bn => bn x.1) 54 #[] g 0 cap es.toArray w
    (enters_of Tryd.func54 (by kernel_rfl) rfl) hcmp hH hlt (by simp at hsz ⊢; omega)
  have hsize : es.toArray.size = (es.map (·.1)).length := by simp
  rw [hsize] at hc
  refine hc.mono ?_
  rintro e w' ⟨rfl, d', m, os, hperm, hsorted, rfl⟩
  have hds : d'.size = es.length := by rw [hperm.1]; simp
  have hln : (es.map (·.1)).length = es.length := by simp
  refine ⟨rfl, d'.toList.map (·.1), ?_, ?_, ?_, ?_⟩
  · have h9 := hperm.2.2
    rw [hln, Array.extract_eq_self_of_le (by omega), Array.extract_eq_self_of_le (by simp)] at h9
    exact h9.map _
  · rw [List.pairwise_map, List.pairwise_iff_getElem]
    intro i j hi hj hij
    have h9 := hsorted i j (Nat.zero_le _) hij (by rw [hln, ← hds]; simpa using hj)
    rw [getElem!_pos d' j (by simpa using hj), getElem!_pos d' i (by simpa using hi)] at h9
    unfold ltOf at h9
    have h10 := of_decide_eq_false h9
    simp only [Array.getElem_toList]
    by_cases hba : bn (d'[j]'(by simpa using hj)).1 < bn (d'[i]'(by simpa using hi)).1
    · refine absurd ?_ h10
      show cmpI _ _ < 0
      unfold cmpI
      rw [if_pos hba]
      decide
    · omega
  · have ht := sorted_take (fun x : El w g bn => fileE x.1) cur d'.toList (by simp at hle ⊢; omega)
    have hs := sorted_heap (fun x : El w g bn => fileE x.1) (n := m) (os := os) d' hgb
    refine ⟨by simp; omega, .inr ⟨g, cap, _, rfl, htk, hs, hle, hmax, by simp [putCells, hcs], ?_⟩⟩
    rw [show (es.map (·.1)).length * 1 = d'.toList.length by simp; omega]
    rw [List.map_map]
    simpa using ht
  · exact ⟨rfl, rfl, rfl, sorted_size _ d', fun k hk hne => sorted_other _ d' k hk hne⟩
end Go.Proofs.YtnjcngmmgceijaaDoor

namespace Go.Proofs.YtnjcngmmgceijaaDoor
open Go.RowKit Go.Maps Go.Sort Go.Shelf

theorem vals_mem {f : Dk.Dir} {xs : List Nat} (h : Dk.Vals f xs) : ∀ x ∈ xs, ∃ k, f k = some x := by
  obtain ⟨ks, _, _, e⟩ := h
  intro x hx
  have h1 : some x ∈ ks.map f := by rw [← e]; exact List.mem_map.2 ⟨x, hx, rfl⟩
  obtain ⟨k, _, hk⟩ := List.mem_map.1 h1
  exact ⟨k, hk⟩

set_option maxRecDepth 100000 in
set_option maxHeartbeats 1000000 in
theorem sortedFunc_any (Bm b nn : Nat) (f : Dk.Dir) (bn : Nat → Int) (w : World) (hm : w.cell? ⟨Bm, 0, none⟩ = some (.map (some b))) (h : NamesAt w b nn f) (hnn : nn ≤ 1099511627775) (hb : ∀ k i, f k = some i → w.cell? ⟨i, 0, none⟩ = some (.int .i64 (bn i))) :
    Calls Tryd.prog 52 #[.func (.func 63) #[] #[.pointer (some ⟨Bm, 0, none⟩)], .func (.func 54) #[] #[]] w fun e w' =>
      ∃ (v : Value) (ys : List Nat), e = .returned v ∧ ((∃ xs, Dk.Vals f xs ∧ ys.Perm xs) ∧ ys.length ≤ nn) ∧ ys.Pairwise (fun a c => bn a ≤ bn c) ∧ w'.ownsRow w.heap.size 63 1 v ys.length (ys.map fileE) ∧ Below w.heap.size w w' := by
  have HCO := hide (callsIn_wide.1 (collect_in Fence.wide 10 trivial trivial trivial rfl (by omega) Bm b nn f w hm h (by omega)))
  have HNN := hide (fun xs (hv : Dk.Vals f xs) => vals_mem hv)
  have HB := hide hb
  clear h hm hb
  go_enter Tryd.func52, Tryd.ntmps52
  go_upto_region 2 with (first
    | (go_at_call 61; refine HCO.out.mono ?_; rintro e w1 ⟨v, xs, rfl, ⟨hvals, hxl⟩, hrow, hbl⟩)
    | fail)
  have HVA := hide hvals
  have HBL := hide hbl
  cases xs with
  | nil =>
    obtain ⟨A, c, rfl⟩ : ∃ A c, v = .slice A 0 c := by
      rcases hrow.2 with ⟨rfl, _⟩ | ⟨g, cap, cur, rfl, _⟩
      · exact ⟨_, _, rfl⟩
      · exact ⟨_, _, rfl⟩
    have HRO := hide hrow
    have HSO := hide (fun W => AnyF.slices_SortFunc_none (P := Tryd.prog) (ρ := lay_sortF_ren) { lay_sortF with } A c (.func (.func 54) #[] #[]) W)
    clear hvals hbl hrow
    go_wp2_with (first
      | (go_at_call 62; refine (HSO.out _).mono ?_; rintro e w2 ⟨rfl, rfl⟩)
      | fail)
    go_ret
    exact ⟨_, [], rfl, ⟨⟨[], HVA.out, List.Perm.refl _⟩, Nat.zero_le _⟩, List.Pairwise.nil, HRO.out, HBL.out⟩
  | cons x0 xs' =>
    obtain ⟨g, cap, cur, rfl, hbg, hgb⟩ : ∃ g cap cur, v = .slice (some ⟨g, 0, none⟩) (x0 :: xs').length cap ∧ w.heap.size ≤ g ∧ w1.heap[g]? = some (.cells cur 63 (0, 0)) := by
      rcases hrow.2 with ⟨_, h0⟩ | ⟨g, cap, cur, e, h1, h2, _⟩
      · simp at h0
      · exact ⟨g, cap, cur, e, h1, h2⟩
    have hlen : (x0 :: xs').length ≤ 1099511627775 := by omega
    have HSO := hide (sort_any w.heap.size g cap _ (x0 :: xs') bn w1 hrow rfl (by simp) (by omega) (fun x hx => by
      obtain ⟨k, hk⟩ := HNN.out _ hvals x hx
      have hc := HB.out k x hk
      have hlt := World.block_lt_of_cell? w _ hc
      exact ⟨by show x ≠ g; have : x < w.heap.size := hlt; omega, Nat.lt_of_lt_of_le hlt hbl.size, (hbl.cell (p := ⟨x, 0, none⟩) hlt).trans hc⟩))
    generalize hnl : (x0 :: xs').length = n at *
    clear hvals hbl hrow hgb
    go_wp2_with (first
      | (go_at_call 62; refine HSO.out.mono ?_; rintro e w2 ⟨rfl, ys, hperm, hpw, hrow2, hc2⟩)
      | fail)
    go_ret
    have hyl : ys.length = n := by rw [hperm.length_eq, hnl]
    refine ⟨_, ys, rfl, ⟨⟨_, HVA.out, hperm⟩, by rw [hyl]; exact hxl⟩, hpw, by rw [hyl]; exact hrow2, HBL.out.trans ?_⟩
    exact hc2.below HBL.out.size (fun k e => by subst e; exact hbg)
end Go.Proofs.YtnjcngmmgceijaaDoor

namespace Go.Proofs.YtnjcngmmgceijaaDoor
open Go.RowKit Go.Maps Go.Sort Go.Shelf

set_option maxRecDepth 100000 in
theorem elderFirst_any (b nn : Nat) (f : Dk.Dir) (bn : Nat → Int) (w : World) (h : NamesAt w b nn f) (hnn : nn ≤ 1099511627775) (hb : ∀ k i, f k = some i → w.cell? ⟨i, 0, none⟩ = some (.int .i64 (bn i))) :
    Calls Tryd.prog 38 #[.map (some b)] w fun e w' =>
      ∃ (v : Value) (ys : List Nat), e = .returned v ∧ ((∃ xs, Dk.Vals f xs ∧ ys.Perm xs) ∧ ys.length ≤ nn) ∧ ys.Pairwise (fun a c => bn a ≤ bn c) ∧ w'.ownsRow w.heap.size 63 1 v ys.length (ys.map fileE) ∧ Below w.heap.size w w' := by
  have hVA := fun W => values_any b W
  obtain ⟨W, hW⟩ : ∃ W, W = w.alloc (.cells #[.map (some b)] 55) := ⟨_, rfl⟩
  have hb1 : Below w.heap.size w W := by rw [hW]; exact balloc (Below.refl _ _) _
  have hm : W.cell? ⟨w.heap.size, 0, none⟩ = some (.map (some b)) := by rw [hW]; simp
  have hz : W.heap.size = w.heap.size + 1 := by rw [hW]; simp
  have HSF := hide (sortedFunc_any w.heap.size b nn f bn W hm (h.same (hb1.block b h.lt)) hnn (fun k i hk => (hb1.cell (p := ⟨i, 0, none⟩) (World.block_lt_of_cell? w _ (hb k i hk))).trans (hb k i hk)))
  have HB1 := hide hb1
  have HZ := hide hz
  have HW := hide hW
  have HVA := hide hVA
  clear hb1 hm hz hW h hb hVA
  go_enter Tryd.func38, Tryd.ntmps38
  go_wp2_with (first
    | (go_at_call 53; refine (HVA.out _).mono ?_; rintro e w1 ⟨rfl, rfl⟩; rw [← HW.out])
    | (go_at_call 52; refine HSF.out.mono ?_; rintro e w2 ⟨v, ys, rfl, hv, hpw, hrow, hb2⟩)
    | fail)
  go_ret
  refine ⟨v, ys, rfl, hv, hpw, ?_, HB1.out.trans (hb2.mono HB1.out.size)⟩
  have := HZ.out
  exact ⟨hrow.1, by
    rcases hrow.2 with h | ⟨g, cap, cur, e, h1, h2⟩
    · exact .inl h
    · exact .inr ⟨g, cap, cur, e, by omega, h2⟩⟩
end Go.Proofs.YtnjcngmmgceijaaDoor
