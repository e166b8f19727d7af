/-
  What IndexTimes does, plainly: an index of which every batch has a mark.
-/
import Derived.Test.YteeadlefbehhfaaDoorIxW
namespace Go.Proofs.YteeadlefbehhfaaDoor.Ix

/-- The greatest of the first k times. -/
def hi (f : Nat → Int) : Nat → Int
  | 0 => -1099511627776
  | k + 1 => max (hi f k) (f k)
def mkT (f : Nat → Int) (i : Nat) : Mark := ⟨2 * (i : Int), hi f (i + 1), 10 * (i : Int)⟩
def adT (i : Nat) : Ad := ⟨2 * (i : Int), 10 * (i : Int)⟩
/-- The index behind k batches. -/
def stT (f : Nat → Int) (k : Nat) : St := ⟨1, (List.range k).map (mkT f), (List.range k).map adT, hi f k⟩
theorem stT_zero (f : Nat → Int) : stT f 0 = new 1 := rfl
theorem hi_mono (f : Nat → Int) (k : Nat) : hi f k ≤ hi f (k + 1) := by show hi f k ≤ max (hi f k) (f k); omega
theorem hi_le (f : Nat → Int) {i j : Nat} (h : i ≤ j) : hi f i ≤ hi f j := by
  induction j with
  | zero => obtain rfl : i = 0 := by omega
            exact Int.le_refl _
  | succ j ih =>
    by_cases e : i = j + 1
    · subst e; exact Int.le_refl _
    · exact Int.le_trans (ih (by omega)) (hi_mono f j)
theorem hi_one (f : Nat → Int) (h : -1099511627776 ≤ f 0) : hi f 1 = f 0 := by show max (-1099511627776) (f 0) = f 0; omega
theorem last_range {α : Type} (g : Nat → α) (k : Nat) (a : α) : ((List.range (k + 1)).map g).getLast? = some a ↔ a = g k := by
  rw [List.range_succ, List.map_append, List.map_cons, List.map_nil, List.getLast?_append]
  simp [eq_comm]
theorem addT (f : Nat → Int) (k : Nat) (hk : k ≤ 1000) (h1 : okT (f k)) : add (stT f k) (2 * (k : Int)) (f k) (10 * (k : Int)) 10 = (none, stT f (k + 1)) := by
  have hb : behind (stT f k).adds (2 * (k : Int)) (10 * (k : Int)) := by
    intro a ha
    cases k with
    | zero => cases ha
    | succ k =>
      obtain rfl := (last_range adT k a).1 ha
      simp only [adT]; omega
  have hd : due (stT f k) (10 * (k : Int)) := by
    intro m hm
    cases k with
    | zero => cases hm
    | succ k =>
      obtain rfl := (last_range (mkT f) k m).1 hm
      simp only [mkT, stT]; omega
  have hg : good (stT f k) (2 * (k : Int)) (f k) (10 * (k : Int)) 10 := ⟨⟨by omega, by omega⟩, h1, by omega, ⟨by omega, by omega⟩, hb⟩
  unfold add
  rw [if_pos hg]
  unfold put
  rw [if_pos hd]
  simp only [stT, List.range_succ, List.map_append, List.map_cons, List.map_nil, mkT, adT]
  rfl
theorem okT_hi (f : Nat → Int) (hf : ∀ k, okT (f k)) : ∀ k, okT (hi f k)
  | 0 => ⟨by show (-1099511627776 : Int) ≤ -1099511627776; omega, by show (-1099511627776 : Int) ≤ 1099511627776; omega⟩
  | k + 1 => okT_max (okT_hi f hf k) (hf k)
theorem ok_stT (f : Nat → Int) (hf : ∀ k, okT (f k)) (k : Nat) (hk : k ≤ 1000) : Ok (stT f k) := by
  refine ⟨⟨by show (1 : Int) ≤ 1; omega, by show (1 : Int) ≤ 1048576; omega⟩, okT_hi f hf k, fun m hm => ?_, fun a ha => ?_⟩
  · obtain ⟨i, hi', rfl⟩ := List.mem_map.1 hm
    have := List.mem_range.1 hi'
    exact ⟨⟨by simp only [mkT]; omega, by simp only [mkT]; omega⟩, okT_hi f hf _, ⟨by simp only [mkT]; omega, by simp only [mkT]; omega⟩⟩
  · obtain ⟨i, hi', rfl⟩ := List.mem_map.1 ha
    have := List.mem_range.1 hi'
    exact ⟨⟨by simp only [adT]; omega, by simp only [adT]; omega⟩, ⟨by simp only [adT]; omega, by simp only [adT]; omega⟩⟩
theorem len_stT (f : Nat → Int) (k : Nat) : (stT f k).marks.length = k ∧ (stT f k).adds.length = k := by simp [stT]
theorem mark_stT (f : Nat → Int) (k i : Nat) (h : i < (stT f k).marks.length) : (stT f k).marks[i] = mkT f i := by simp [stT]

/-- The offset that is to be found. -/
def atT (f : Nat → Int) (t : Int) : Nat → Int
  | 0 => -1
  | k + 1 => if atT f t k < 0 ∧ t ≤ hi f (k + 1) then 2 * (k : Int) else atT f t k
theorem atT_spec (f : Nat → Int) (t : Int) : ∀ k, (atT f t k = -1 ∧ ∀ i, i < k → hi f (i + 1) < t) ∨ (∃ j, j < k ∧ atT f t k = 2 * (j : Int) ∧ t ≤ hi f (j + 1) ∧ ∀ i, i < j → hi f (i + 1) < t)
  | 0 => .inl ⟨rfl, fun i h => absurd h (Nat.not_lt_zero _)⟩
  | k + 1 => by
    rcases atT_spec f t k with ⟨h, hb⟩ | ⟨j, hj, h, hj1, hb⟩
    · by_cases ht : t ≤ hi f (k + 1)
      · exact .inr ⟨k, by omega, by show (if _ then _ else _) = _; rw [if_pos ⟨by omega, ht⟩], ht, hb⟩
      · refine .inl ⟨by show (if _ then _ else _) = _; rw [if_neg (fun h => ht h.2)]; exact h, fun i hi' => ?_⟩
        by_cases e : i = k
        · subst e; omega
        · exact hb i (by omega)
    · exact .inr ⟨j, by omega, by show (if _ then _ else _) = _; rw [if_neg (fun h' => by omega)]; exact h, hj1, hb⟩
theorem atT_le (f : Nat → Int) (t : Int) (k : Nat) : -1 ≤ atT f t k ∧ atT f t k ≤ 2 * (k : Int) := by
  rcases atT_spec f t k with ⟨h, _⟩ | ⟨j, hj, h, _⟩ <;> omega
theorem whenT (f : Nat → Int) (t : Int) (k : Nat) : (stT f k).when t = if atT f t k < 0 then (0, false) else (atT f t k, true) := by
  rcases atT_spec f t k with ⟨h, hb⟩ | ⟨j, hj, h, hj1, hb⟩
  · rw [if_pos (by omega)]
    exact when_none fun i hi' => by rw [mark_stT]; rw [(len_stT f k).1] at hi'; exact hb i hi'
  · rw [if_neg (by omega), h]
    have hl : j < (stT f k).marks.length := by rw [(len_stT f k).1]; exact hj
    rw [when_at (s := stT f k) (t := t) j hl (fun i hi' hij => by rw [mark_stT]; exact hb i hij) (by rw [mark_stT]; exact hj1), mark_stT]
    rfl
theorem badT (f : Nat → Int) (k : Nat) : add (stT f k) (-1) 0 9999 1 = (some 4, stT f k) := if_neg fun h => by have := h.1.1; omega
end Go.Proofs.YteeadlefbehhfaaDoor.Ix
