/-
  DiskNames: the states, plainly.
-/
import Derived.Test.YtnjcngmmgceijaaDoorDkLi
import Derived.Test.YtnjcngmmgceijaaDoorHSame
namespace Go.Proofs.YtnjcngmmgceijaaDoor.Dk

abbrev no : Dir := fun _ => none
/-- A disk whose names made these moves since it was new; all its files are empty. -/
structure Hist (s : St) (since : List Mv) : Prop where
  v : ∃ calls, V s 100 0 calls (ons since no) no since
  empty : ∀ i, (s.files i).bytes = [] ∧ (s.files i).synced = 0
theorem Hist.new : Hist (St.new 100) [] := ⟨⟨0, V.new 100⟩, fun i => ⟨rfl, rfl⟩⟩
/-- The lists of names behind each move. -/
structure Lines (since : List Mv) (sts : List (List Nm)) : Prop where
  len : sts.length = since.length + 1
  at_ : ∀ j, j ≤ since.length → Lists (ons (since.take j) no) (sts.getD j [])
theorem Lines.new (l : List Nm) (h : Lists no l) : Lines [] [l] := ⟨rfl, fun j hj => by
  obtain rfl : j = 0 := by simpa using hj
  simpa [ons] using h⟩
theorem Lines.snoc {since : List Mv} {sts : List (List Nm)} (h : Lines since sts) (m : Mv) (l : List Nm) (hl : Lists (ons (since ++ [m]) no) l) : Lines (since ++ [m]) (sts ++ [l]) := by
  have hlen := h.len
  refine ⟨by simp [hlen], fun j hj => ?_⟩
  rw [List.length_append, List.length_singleton] at hj
  by_cases e : j = since.length + 1
  · subst e
    rw [show (since ++ [m]).take (since.length + 1) = since ++ [m] from List.take_of_length_le (by simp), show (sts ++ [l]).getD (since.length + 1) [] = l from by simp [List.getD, ← hlen]]
    exact hl
  · rw [List.take_append_of_le_length (by omega), show (sts ++ [l]).getD j [] = sts.getD j [] from by simp [List.getD, List.getElem?_append_left (show j < sts.length by omega)]]
    exact h.at_ j (by omega)

theorem Hist.create {s : St} {since : List Mv} (h : Hist s since) (k : Nm) (hv : valid k = true) (i : Nat) : s.create k i = (some 7, s) ∨ ∃ s' m, s.create k i = (none, s') ∧ Hist s' (since ++ [m]) := by
  obtain ⟨calls, v⟩ := h.v
  cases hn : ons since no k with
  | some j => exact .inl (v.create_there k i j hv hn)
  | none =>
    obtain ⟨s', e, v', f', g'⟩ := v.create k i hv hn
    refine .inr ⟨s', ⟨[], k, some i⟩, e, ⟨⟨calls + 1, ?_⟩, fun x => ?_⟩⟩
    · rw [← on_to k (some i) (ons since no) (valid_ne hv), ← ons_snoc] at v'
      exact v'
    · by_cases ex : x = i
      · subst ex; rw [f']; exact ⟨rfl, rfl⟩
      · rw [g' x ex]; exact h.empty x
theorem Hist.remove {s : St} {since : List Mv} (h : Hist s since) (k : Nm) (hk : k ≠ []) : s.remove k = (some 6, s) ∨ ∃ s' m, s.remove k = (none, s') ∧ Hist s' (since ++ [m]) := by
  obtain ⟨calls, v⟩ := h.v
  cases hn : ons since no k with
  | none => exact .inl (v.remove_none k hn)
  | some i =>
    obtain ⟨s', e, v', f'⟩ := v.remove k i hk hn
    refine .inr ⟨s', ⟨k, [], none⟩, e, ⟨⟨calls + 1, ?_⟩, fun x => by rw [f']; exact h.empty x⟩⟩
    rw [(h.empty i).1, ← on_from k none (ons since no) hk, ← ons_snoc] at v'
    exact v'
theorem Hist.rename {s : St} {since : List Mv} (h : Hist s since) (k to : Nm) (hk : k ≠ []) (hv : valid to = true) : s.rename k to = (some 6, s) ∨ ∃ s' m, s.rename k to = (none, s') ∧ Hist s' (since ++ [m]) := by
  obtain ⟨calls, v⟩ := h.v
  cases hn : ons since no k with
  | none => exact .inl (v.rename_none k to hn)
  | some i =>
    obtain ⟨s', e, v', f'⟩ := v.rename k to i hk hv hn
    refine .inr ⟨s', ⟨k, to, some i⟩, e, ⟨⟨calls + 1, ?_⟩, fun x => by rw [f']; exact h.empty x⟩⟩
    rw [← on_both k to (some i) (ons since no) hk (valid_ne hv), ← ons_snoc] at v'
    cases hto : ons since no to with
    | none => simpa only [hto] using v'
    | some o =>
      have hu : (if o = i then (0 : Int) else 0 - ((s.files o).bytes.length : Int)) = 0 := by
        rw [(h.empty o).1]
        split <;> rfl
      simp only [hto] at v'
      rw [hu] at v'
      exact v'
/-- Behind a crash, and behind one more. -/
theorem Hist.crash {s : St} {since : List Mv} (h : Hist s since) (z : Int) (ys : List Nat) (hy : Order (s.settle (pick [z] 0 s.since.length)) (s.settle (pick [z] 0 s.since.length)).dur ys) (hs : ∀ k ∈ ys, (s.files k).synced ≤ (s.files k).bytes.length) :
    ∃ m, m ≤ since.length ∧ m = num z (since.length + 1) ∧ (s.crash [z] ys).names = ons (since.take m) no ∧ ∀ ps zs, Order ((s.crash [z] ys).settle (pick ps 0 (s.crash [z] ys).since.length)) ((s.crash [z] ys).settle (pick ps 0 (s.crash [z] ys).since.length)).dur zs → (∀ k ∈ zs, ((s.crash [z] ys).files k).synced ≤ ((s.crash [z] ys).files k).bytes.length) → ((s.crash [z] ys).crash ps zs).names = ons (since.take m) no := by
  obtain ⟨calls, v⟩ := h.v
  obtain ⟨m, hm, e, vt, -⟩ := v.crash [z] ys hy hs
  refine ⟨m, hm, ?_, vt.names, fun ps zs hz hr => ?_⟩
  · rw [e]
    unfold pick num
    rw [if_pos (by simp)]
    simp
  · obtain ⟨m2, hm2, -, vu, -⟩ := vt.crash ps zs hz hr
    rw [vu.names]
    simp [ons]
end Go.Proofs.YtnjcngmmgceijaaDoor.Dk
