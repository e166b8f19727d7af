/-
  One file of a disk is turned; its first bytes kept.
-/
import Derived.Test.YtnjcngmmgceijaaDoorDkF
namespace Go.Proofs.YtnjcngmmgceijaaDoor
open Go.RowKit Go.Maps

theorem Own.take {w : World} {base n len cap : Nat} {A : Option Addr} {l : List UInt8} (h : Own w base (.slice A len cap) l) (hn : n ≤ l.length) : Own w base (.slice A n cap) (l.take n) := by
  obtain ⟨_, h2⟩ := h
  have hlen : (l.take n).length = n := by simp; omega
  refine ⟨by simp [cells_len], ?_⟩
  rcases h2 with ⟨e, h0⟩ | ⟨g, cp, cur, e, hb, hh, hc, hm, hs, ht⟩
  · injection e with e1 e2 e3
    subst e1 e2 e3
    obtain rfl : n = 0 := by omega
    exact .inl ⟨rfl, by simp⟩
  · injection e with e1 e2 e3
    subst e1 e3
    refine .inr ⟨g, cap, cur, by rw [hlen], hb, hh, by omega, hm, hs, ?_⟩
    have h3 : cells (l.take n) = (cells l).take n := by simp [cells, List.map_take]
    rw [h3, ← ht, hlen, List.take_take]
    congr 1
    omega
theorem ownBlock_lt {w : World} {v : Value} {l : List UInt8} (h : Own w 0 v l) {g : Nat} (hg : v.ownBlock = some g) : ∃ cur, w.heap[g]? = some (.cells cur 5 (0, 0)) := by
  rcases h.2 with ⟨e, _⟩ | ⟨g', cap, cur, e, _, hh, _⟩
  · rw [e] at hg; cases hg
  · rw [e] at hg; injection hg with hg; subst hg; exact ⟨cur, hh⟩
theorem rowBlock_at {w : World} {e : TypeId} {n sz : Nat} {v : Value} {xs : List Value} (h : w.ownsRow 0 e sz v n xs) {g : Nat} (hg : v.ownBlock = some g) : ∃ cur, w.heap[g]? = some (.cells cur e (0, 0)) := by
  rcases h.2 with ⟨e, _⟩ | ⟨g', cap, cur, e, _, hh, _⟩
  · rw [e] at hg; cases hg
  · rw [e] at hg; injection hg with hg; subst hg; exact ⟨cur, hh⟩
theorem types_ne {w : World} {i j : Nat} {c c' : Array Value} {t t' : TypeId} (h : w.heap[i]? = some (.cells c t (0, 0))) (h' : w.heap[j]? = some (.cells c' t' (0, 0))) (ht : t ≠ t') : i ≠ j := by
  intro e
  subst e
  rw [h] at h'
  injection h' with h'
  injection h' with _ h' _
  exact ht h'
theorem map_ne {w : World} {i b n : Nat} {c : Array Value} {t : TypeId} {f : Dk.Dir} (h : NamesAt w b n f) (h' : w.heap[i]? = some (.cells c t (0, 0))) : b ≠ i := by
  obtain ⟨D, ⟨es, clock, h1, _⟩, _⟩ := h.ex
  intro e
  subst e
  rw [h1] at h'
  cases h'

theorem DiskL.file_ {w w' : World} {Bd nb db : Nat} {sv : Value} {ids : List Nat} {row : Nat → Value} {s : Dk.St} {S : Nat → Prop} (h : DiskL w Bd nb db sv ids row s S) (i : Nat) (hi : i ∈ ids) (v' : Value) (f' : Dk.File) (hf : FileAt w' i v' f')
    (hk : ∀ k, k < w.heap.size → k ≠ i → some k ≠ (row i).ownBlock → w'.heap[k]? = w.heap[k]?) (hv : ∀ g, v'.ownBlock = some g → (row i).ownBlock = some g ∨ w.heap.size ≤ g) (hsz : w.heap.size ≤ w'.heap.size) :
    DiskL w' Bd nb db sv ids (fun j => if j = i then v' else row j) (s.setFile i f') (Up S w w') := by
  have lt : ∀ {k : Nat} {o : Obj}, w.heap[k]? = some o → k < w.heap.size := fun h => (Array.getElem?_eq_some_iff.1 h).1
  have lt' : ∀ {k : Nat} {o : Obj}, w'.heap[k]? = some o → k < w'.heap.size := fun h => (Array.getElem?_eq_some_iff.1 h).1
  have hfi := h.file i hi
  have key : ∀ k o, w.heap[k]? = some o → k ≠ i → (∀ g, (row i).ownBlock = some g → k ≠ g) → w'.heap[k]? = w.heap[k]? := fun k o hk1 h1 h2 => hk k (lt hk1) h1 fun e => h2 k e.symm rfl
  have nrow : ∀ {k : Nat} {c : Array Value} {t : TypeId}, w.heap[k]? = some (.cells c t (0, 0)) → t ≠ 5 → ∀ g, (row i).ownBlock = some g → k ≠ g := fun h1 ht g hg => by
    obtain ⟨cur, h2⟩ := ownBlock_lt hfi.row hg
    exact types_ne h1 h2 ht
  have kcell : ∀ {k : Nat} {c : Array Value} {t : TypeId}, w.heap[k]? = some (.cells c t (0, 0)) → t ≠ 5 → t ≠ 67 → w'.heap[k]? = w.heap[k]? := fun h1 h2 h3 => key _ _ h1 (types_ne h1 hfi.box h3) (nrow h1 h2)
  have kmap : ∀ {b n : Nat} {f : Dk.Dir}, NamesAt w b n f → NamesAt w' b n f := fun h1 => by
    refine h1.same ?_
    refine hk _ h1.lt (map_ne h1 hfi.box) fun e => ?_
    obtain ⟨cur, h2⟩ := ownBlock_lt hfi.row e.symm
    exact map_ne h1 h2 rfl
  obtain ⟨m, hd, hm⟩ := h.dur
  have kfile : ∀ j ∈ ids, j ≠ i → FileAt w' j (row j) (s.files j) := fun j hj hji => by
    have hfj := h.file j hj
    refine hfj.same (key _ _ hfj.box hji (nrow hfj.box (by decide))) fun g hg => ?_
    obtain ⟨cur, h2⟩ := ownBlock_lt hfj.row hg
    exact key _ _ h2 (types_ne h2 hfi.box (by decide)) fun g' hg' e => by subst e; exact h.apart i hi j hj (Ne.symm hji) g hg' hg
  refine { box := (kcell h.box (by decide) (by decide)).trans h.box, names := kmap h.names, dur := ⟨m, kmap hd, hm⟩, ne := h.ne, since := ownsRow_same h.since fun g hg => ?_, nodup := h.nodup, file := fun j hj => ?_, apart := fun a ha b hb hab g hg => ?_, nref := h.nref, dref := h.dref, sref := h.sref, calls := h.calls, mBd := .inl h.mBd, mnb := .inl h.mnb, mdb := .inl h.mdb, msv := fun g hg => .inl (h.msv g hg), mid := fun j hj => .inl (h.mid j hj), mrow := fun j hj g hg => ?_ }
  · obtain ⟨cur, h2⟩ := rowBlock_at h.since hg
    exact kcell h2 (by decide) (by decide)
  · by_cases e : j = i
    · subst e; simp only [if_true, Dk.setFile_same]; exact hf
    · simp only [if_neg e, Dk.setFile_other _ _ _ _ e]; exact kfile j hj e
  · have hlow : ∀ c ∈ ids, c ≠ i → ∀ g, (row c).ownBlock = some g → g < w.heap.size := fun c hc _ g hg => ((h.file c hc).row.lt g hg).2
    by_cases ea : a = i
    · subst ea
      simp only [if_true] at hg
      have eb : b ≠ a := Ne.symm hab
      simp only [if_neg eb]
      intro hg2
      rcases hv g hg with h1 | h1
      · exact h.apart a hi b hb hab g h1 hg2
      · have := hlow b hb eb g hg2; omega
    · simp only [if_neg ea] at hg
      by_cases eb : b = i
      · subst eb
        simp only [if_true]
        intro hg2
        rcases hv g hg2 with h1 | h1
        · exact h.apart a ha b hi hab g hg h1
        · have := hlow a ha ea g hg; omega
      · simp only [if_neg eb]
        exact h.apart a ha b hb hab g hg
  · by_cases e : j = i
    · subst e
      simp only [if_true] at hg
      rcases hv g hg with h1 | h1
      · exact .inl (h.mrow j hj g h1)
      · obtain ⟨cur, h2⟩ := ownBlock_lt hf.row hg
        exact .inr ⟨h1, lt' h2⟩
    · simp only [if_neg e] at hg
      exact .inl (h.mrow j hj g hg)
theorem up_same {S : Nat → Prop} {w w' : World} (h : w'.heap.size = w.heap.size) : ∀ k, Up S w w' k → S k := fun k hk => by
  rcases hk with hk | hk
  · exact hk
  · omega

set_option maxRecDepth 100000 in
theorem keep_any (i : Nat) (v : Value) (f : Dk.File) (n : Nat) (w : World) (h : FileAt w i v f) (hn : n ≤ f.bytes.length) :
    Calls Tryd.prog 39 #[.pointer (some ⟨i, 0, none⟩), .int .i64 (n : Int)] w fun e w' => e = .returned (.tuple #[]) ∧ ∃ v', FileAt w' i v' (f.keep n) ∧ (∀ g, v'.ownBlock = some g → v.ownBlock = some g) ∧ Chg (fun k => k = i) w w' ∧ w'.heap.size = w.heap.size := by
  obtain ⟨A, c, rfl, ha⟩ := h.row.arg
  have c1 : w.cell? ⟨i, 1, none⟩ = some (.slice A f.bytes.length c) := box_cell h.box 1
  have c2 : w.cell? ⟨i, 2, none⟩ = some (.int .i64 (f.synced : Int)) := box_cell h.box 2
  have f1 := box_free h.box 1
  have f2 := box_free h.box 2
  have hle := ha.le
  have hmx := ha.max
  have hA := ha.nil
  have HH := hide h
  clear h ha
  generalize hfl : f.bytes.length = L at *
  go_enter Tryd.func39, Tryd.ntmps39
  go_wp2_with fail
  go_end0
  have hrow := HH.out.row
  have hb1 := heap_setCell_same w i 1 _ _ (.slice A n c) HH.out.box
  have hb2 := heap_setCell_same _ i 2 _ _ (.int .i64 (n : Int)) hb1
  refine ⟨rfl, .slice A n c, ⟨by rw [hb2]; rfl, ?_, by simp [Dk.File.keep]; omega⟩, fun g hg => (by cases A with | none => cases hg | some a => exact hg), (Chg.setCell (S := fun k => k = i) w i 1 _ rfl).then (Chg.setCell (S := fun k => k = i) _ i 2 _ rfl), by simp⟩
  refine ownsRow_same (hrow.take (by rw [hfl]; exact hn)) fun g hg => ?_
  have hg2 : (Value.slice A L c).ownBlock = some g := by cases A with | none => cases hg | some a => exact hg
  obtain ⟨cur, h2⟩ := ownBlock_lt hrow hg2
  have hne : g ≠ i := types_ne h2 HH.out.box (by decide)
  rw [Below.heap_setCell _ _ _ _ (by exact hne), Below.heap_setCell _ _ _ _ (by exact hne)]
end Go.Proofs.YtnjcngmmgceijaaDoor
