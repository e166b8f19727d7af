/-
  What IndexTimes does, plainly: an index of which every batch has a mark.
  What IndexFinds does, plainly: marks that lie every bytes or more from one another.
-/
import Derived.Test.YteeadlefbehhfaaDoorIxW
import Derived.Test.YteeadlefbehhfaaDoorIxSr
namespace Go.Proofs.YteeadlefbehhfaaDoor.Ix

/-- The greatest of the first k times. -/
def hi (f : Nat → Int) : Nat → Int
  | 0 => -1099511627776
  | k + 1 => max (hi f k) (f k)
def mkT (f : Nat → Int) (i : Nat) : Mark := ⟨2 * (i : Int), hi f (i + 1), 10 * (i : Int)⟩
def adT (i : Nat) : Ad := ⟨2 * (i : Int), 10 * (i : Int)⟩
/-- The index behind k batches. -/
def stT (f : Nat → Int) (k : Nat) : St := ⟨1, (List.range k).map (mkT f), (List.range k).map adT, hi f k⟩
theorem stT_zero (f : Nat → Int) : stT f 0 = new 1 := rfl
theorem hi_mono (f : Nat → Int) (k : Nat) : hi f k ≤ hi f (k + 1) := by show hi f k ≤ max (hi f k) (f k); omega
theorem hi_le (f : Nat → Int) {i j : Nat} (h : i ≤ j) : hi f i ≤ hi f j := by
  induction j with
  | zero => obtain rfl : i = 0 := by omega
            exact Int.le_refl _
  | succ j ih =>
    by_cases e : i = j + 1
    · subst e; exact Int.le_refl _
    · exact Int.le_trans (ih (by omega)) (hi_mono f j)
theorem hi_one (f : Nat → Int) (h : -1099511627776 ≤ f 0) : hi f 1 = f 0 := by show max (-1099511627776) (f 0) = f 0; omega
theorem last_range {α : Type} (g : Nat → α) (k : Nat) (a : α) : ((List.range (k + 1)).map g).getLast? = some a ↔ a = g k := by
  rw [List.range_succ, List.map_append, List.map_cons, List.map_nil, List.getLast?_append]
  simp [eq_comm]
theorem addT (f : Nat → Int) (k : Nat) (hk : k ≤ 1000) (h1 : okT (f k)) : add (stT f k) (2 * (k : Int)) (f k) (10 * (k : Int)) 10 = (none, stT f (k + 1)) := by
  have hb : behind (stT f k).adds (2 * (k : Int)) (10 * (k : Int)) := by
    intro a ha
    cases k with
    | zero => cases ha
    | succ k =>
      obtain rfl := (last_range adT k a).1 ha
      simp only [adT]; omega
  have hd : due (stT f k) (10 * (k : Int)) := by
    intro m hm
    cases k with
    | zero => cases hm
    | succ k =>
      obtain rfl := (last_range (mkT f) k m).1 hm
      simp only [mkT, stT]; omega
  have hg : good (stT f k) (2 * (k : Int)) (f k) (10 * (k : Int)) 10 := ⟨⟨by omega, by omega⟩, h1, by omega, ⟨by omega, by omega⟩, hb⟩
  unfold add
  rw [if_pos hg]
  unfold put
  rw [if_pos hd]
  simp only [stT, List.range_succ, List.map_append, List.map_cons, List.map_nil, mkT, adT]
  rfl
theorem okT_hi (f : Nat → Int) (hf : ∀ k, okT (f k)) : ∀ k, okT (hi f k)
  | 0 => ⟨by show (-1099511627776 : Int) ≤ -1099511627776; omega, by show (-1099511627776 : Int) ≤ 1099511627776; omega⟩
  | k + 1 => okT_max (okT_hi f hf k) (hf k)
theorem ok_stT (f : Nat → Int) (hf : ∀ k, okT (f k)) (k : Nat) (hk : k ≤ 1000) : Ok (stT f k) := by
  refine ⟨⟨by show (1 : Int) ≤ 1; omega, by show (1 : Int) ≤ 1048576; omega⟩, okT_hi f hf k, fun m hm => ?_, fun a ha => ?_⟩
  · obtain ⟨i, hi', rfl⟩ := List.mem_map.1 hm
    have := List.mem_range.1 hi'
    exact ⟨⟨by simp only [mkT]; omega, by simp only [mkT]; omega⟩, okT_hi f hf _, ⟨by simp only [mkT]; omega, by simp only [mkT]; omega⟩⟩
  · obtain ⟨i, hi', rfl⟩ := List.mem_map.1 ha
    have := List.mem_range.1 hi'
    exact ⟨⟨by simp only [adT]; omega, by simp only [adT]; omega⟩, ⟨by simp only [adT]; omega, by simp only [adT]; omega⟩⟩
theorem len_stT (f : Nat → Int) (k : Nat) : (stT f k).marks.length = k ∧ (stT f k).adds.length = k := by simp [stT]
theorem mark_stT (f : Nat → Int) (k i : Nat) (h : i < (stT f k).marks.length) : (stT f k).marks[i] = mkT f i := by simp [stT]

/-- The offset that is to be found. -/
def atT (f : Nat → Int) (t : Int) : Nat → Int
  | 0 => -1
  | k + 1 => if atT f t k < 0 ∧ t ≤ hi f (k + 1) then 2 * (k : Int) else atT f t k
theorem atT_spec (f : Nat → Int) (t : Int) : ∀ k, (atT f t k = -1 ∧ ∀ i, i < k → hi f (i + 1) < t) ∨ (∃ j, j < k ∧ atT f t k = 2 * (j : Int) ∧ t ≤ hi f (j + 1) ∧ ∀ i, i < j → hi f (i + 1) < t)
  | 0 => .inl ⟨rfl, fun i h => absurd h (Nat.not_lt_zero _)⟩
  | k + 1 => by
    rcases atT_spec f t k with ⟨h, hb⟩ | ⟨j, hj, h, hj1, hb⟩
    · by_cases ht : t ≤ hi f (k + 1)
      · exact .inr ⟨k, by omega, by show (if _ then _ else _) = _; rw [if_pos ⟨by omega, ht⟩], ht, hb⟩
      · refine .inl ⟨by show (if _ then _ else _) = _; rw [if_neg (fun h => ht h.2)]; exact h, fun i hi' => ?_⟩
        by_cases e : i = k
        · subst e; omega
        · exact hb i (by omega)
    · exact .inr ⟨j, by omega, by show (if _ then _ else _) = _; rw [if_neg (fun h' => by omega)]; exact h, hj1, hb⟩
theorem atT_le (f : Nat → Int) (t : Int) (k : Nat) : -1 ≤ atT f t k ∧ atT f t k ≤ 2 * (k : Int) := by
  rcases atT_spec f t k with ⟨h, _⟩ | ⟨j, hj, h, _⟩ <;> omega
theorem whenT (f : Nat → Int) (t : Int) (k : Nat) : (stT f k).when t = if atT f t k < 0 then (0, false) else (atT f t k, true) := by
  rcases atT_spec f t k with ⟨h, hb⟩ | ⟨j, hj, h, hj1, hb⟩
  · rw [if_pos (by omega)]
    exact when_none fun i hi' => by rw [mark_stT]; rw [(len_stT f k).1] at hi'; exact hb i hi'
  · rw [if_neg (by omega), h]
    have hl : j < (stT f k).marks.length := by rw [(len_stT f k).1]; exact hj
    rw [when_at (s := stT f k) (t := t) j hl (fun i hi' hij => by rw [mark_stT]; exact hb i hij) (by rw [mark_stT]; exact hj1), mark_stT]
    rfl
theorem badT (f : Nat → Int) (k : Nat) : add (stT f k) (-1) 0 9999 1 = (some 4, stT f k) := if_neg fun h => by have := h.1.1; omega
end Go.Proofs.YteeadlefbehhfaaDoor.Ix

namespace Go.Proofs.YteeadlefbehhfaaDoor.Ix

def posF (z : Nat → Int) : Nat → Int
  | 0 => 0
  | i + 1 => posF z i + z i
/-- The last mark at i or ahead of it. -/
def lm (e : Int) (z : Nat → Int) : Nat → Nat
  | 0 => 0
  | i + 1 => if e ≤ posF z (i + 1) - posF z (lm e z i) then i + 1 else lm e z i
def mkF (z : Nat → Int) (i : Nat) : Mark := ⟨10 * (i : Int), (i : Int), posF z i⟩
def adF (z : Nat → Int) (i : Nat) : Ad := ⟨10 * (i : Int), posF z i⟩
def mksF (e : Int) (z : Nat → Int) (k : Nat) : List Nat := (List.range k).filter fun i => lm e z i == i
def timeF : Nat → Int
  | 0 => -1099511627776
  | k + 1 => (k : Int)
def stF (e : Int) (z : Nat → Int) (k : Nat) : St := ⟨e, (mksF e z k).map (mkF z), (List.range k).map (adF z), timeF k⟩
theorem stF_zero (e : Int) (z : Nat → Int) : stF e z 0 = new e := rfl
variable {e : Int} {z : Nat → Int}
theorem lm_le (i : Nat) : lm e z i ≤ i := by
  induction i with
  | zero => exact Nat.le_refl _
  | succ i ih =>
    by_cases h : e ≤ posF z (i + 1) - posF z (lm e z i)
    · rw [show lm e z (i + 1) = i + 1 from if_pos h]; omega
    · rw [show lm e z (i + 1) = lm e z i from if_neg h]; omega
theorem lm_near (he : 1 ≤ e) (i : Nat) : posF z i - posF z (lm e z i) < e := by
  cases i with
  | zero => show posF z 0 - posF z 0 < e; omega
  | succ i =>
    by_cases h : e ≤ posF z (i + 1) - posF z (lm e z i)
    · rw [show lm e z (i + 1) = i + 1 from if_pos h]; omega
    · rw [show lm e z (i + 1) = lm e z i from if_neg h]; omega
theorem mksF_succ (k : Nat) : mksF e z (k + 1) = mksF e z k ++ if lm e z k = k then [k] else [] := by
  unfold mksF
  rw [List.range_succ, List.filter_append]
  congr 1
  by_cases h : lm e z k = k
  · rw [if_pos h]; simp [h]
  · rw [if_neg h]; simp [h]
theorem mksF_last (k : Nat) : (mksF e z (k + 1)).getLast? = some (lm e z k) := by
  induction k with
  | zero => rfl
  | succ k ih =>
    rw [mksF_succ]
    by_cases h : e ≤ posF z (k + 1) - posF z (lm e z k)
    · have e1 : lm e z (k + 1) = k + 1 := if_pos h
      rw [if_pos e1, List.getLast?_append, e1]; rfl
    · have e1 : lm e z (k + 1) = lm e z k := if_neg h
      have := lm_le (e := e) (z := z) k
      rw [if_neg (by rw [e1]; omega), List.append_nil, ih, e1]
theorem posF_lt (hz : ∀ i, 1 ≤ z i) {i j : Nat} (h : i < j) : posF z i < posF z j := by
  induction j with
  | zero => omega
  | succ j ih =>
    have := hz j
    show posF z i < posF z j + z j
    by_cases e : i = j
    · subst e; omega
    · have := ih (by omega); omega
theorem posF_le (hz : ∀ i, 1 ≤ z i ∧ z i ≤ 90) (i : Nat) : 0 ≤ posF z i ∧ posF z i ≤ 90 * (i : Int) := by
  induction i with
  | zero => exact ⟨Int.le_refl _, Int.le_refl _⟩
  | succ i ih =>
    have := hz i
    show 0 ≤ posF z i + z i ∧ posF z i + z i ≤ 90 * ((i + 1 : Nat) : Int)
    omega
theorem last_map {α β : Type} (g : α → β) (l : List α) (b : β) : (l.map g).getLast? = some b ↔ ∃ a, l.getLast? = some a ∧ g a = b := by
  rw [List.getLast?_map, Option.map_eq_some_iff]
theorem addF (he : 1 ≤ e) (hz : ∀ i, 1 ≤ z i ∧ z i ≤ 90) (k : Nat) (hk : k ≤ 1000) : add (stF e z k) (10 * (k : Int)) (k : Int) (posF z k) (z k) = (none, stF e z (k + 1)) := by
  have hp := posF_le hz k
  have hb : behind (stF e z k).adds (10 * (k : Int)) (posF z k) := by
    intro a ha
    cases k with
    | zero => cases ha
    | succ k =>
      obtain rfl := (last_range (adF z) k a).1 ha
      have := posF_lt (z := z) (fun i => (hz i).1) (show k < k + 1 by omega)
      simp only [adF]; omega
  have hd : due (stF e z k) (posF z k) ↔ lm e z k = k := by
    cases k with
    | zero => exact ⟨fun _ => rfl, fun _ m hm => by cases hm⟩
    | succ k =>
      have hl : (stF e z (k + 1)).marks.getLast? = some (mkF z (lm e z k)) := (last_map _ _ _).2 ⟨_, mksF_last k, rfl⟩
      have hle := lm_le (e := e) (z := z) k
      constructor
      · intro h
        have := h _ hl
        exact if_pos this
      · intro h m hm
        rw [hl] at hm
        cases hm
        by_cases c : e ≤ posF z (k + 1) - posF z (lm e z k)
        · exact c
        · have : lm e z (k + 1) = lm e z k := if_neg c
          omega
  have hg : good (stF e z k) (10 * (k : Int)) (k : Int) (posF z k) (z k) := ⟨⟨by omega, by omega⟩, ⟨by omega, by omega⟩, (hz k).1, ⟨by omega, by omega⟩, hb⟩
  have ht : max (timeF k) (k : Int) = timeF (k + 1) := by
    cases k with
    | zero => rfl
    | succ k => show max (k : Int) ((k + 1 : Nat) : Int) = ((k + 1 : Nat) : Int); omega
  unfold add
  rw [if_pos hg]
  unfold put
  rw [show max (stF e z k).time (k : Int) = timeF (k + 1) from ht]
  by_cases h : lm e z k = k
  · rw [if_pos (hd.2 h)]
    simp only [stF, mksF_succ, if_pos h, List.map_append, List.map_cons, List.map_nil, List.range_succ, mkF, adF]
    rfl
  · rw [if_neg (fun c => h (hd.1 c))]
    simp only [stF, mksF_succ, if_neg h, List.append_nil, List.map_append, List.map_cons, List.map_nil, List.range_succ, adF]
theorem mksF_lt {k i : Nat} (h : i ∈ mksF e z k) : i < k := List.mem_range.1 (List.mem_filter.1 h).1
theorem mksF_len (k : Nat) : (mksF e z k).length ≤ k := by
  have := List.length_filter_le (fun i => lm e z i == i) (List.range k)
  rw [List.length_range] at this
  exact this
theorem ok_stF (he : 1 ≤ e ∧ e ≤ 1048576) (hz : ∀ i, 1 ≤ z i ∧ z i ≤ 90) (k : Nat) (hk : k ≤ 1000) : Ok (stF e z k) := by
  refine ⟨he, ?_, fun m hm => ?_, fun a ha => ?_⟩
  · cases k with
    | zero => exact ⟨by show (-1099511627776 : Int) ≤ -1099511627776; omega, by show (-1099511627776 : Int) ≤ 1099511627776; omega⟩
    | succ k => exact ⟨by show (-1099511627776 : Int) ≤ (k : Int); omega, by show (k : Int) ≤ 1099511627776; omega⟩
  · obtain ⟨i, hi', rfl⟩ := List.mem_map.1 hm
    have := mksF_lt hi'
    have hp := posF_le hz i
    exact ⟨⟨by simp only [mkF]; omega, by simp only [mkF]; omega⟩, ⟨by simp only [mkF]; omega, by simp only [mkF]; omega⟩, ⟨by simp only [mkF]; omega, by simp only [mkF]; omega⟩⟩
  · obtain ⟨i, hi', rfl⟩ := List.mem_map.1 ha
    have := List.mem_range.1 hi'
    have hp := posF_le hz i
    exact ⟨⟨by simp only [adF]; omega, by simp only [adF]; omega⟩, ⟨by simp only [adF]; omega, by simp only [adF]; omega⟩⟩
theorem countP_getD {α : Type} (d : α) (p : α → Bool) : ∀ l : List α, (List.range l.length).countP (fun i => p (l.getD i d)) = l.countP p := by
  intro l
  have h : l = (List.range l.length).map (fun i => l.getD i d) := by
    apply List.ext_getElem
    · simp
    · intro i h1 h2
      simp [List.getD, h1]
  conv => rhs; rw [h, List.countP_map]
  rfl
theorem cnt_eq (s : St) (o : Int) : s.cnt o = s.marks.countP (fun m => !decide (o < m.off)) := countP_getD _ (fun m : Mark => !decide (o < m.off)) s.marks
theorem mksF_cut (i n : Nat) (h : i < n) : ∃ l2, mksF e z n = mksF e z (i + 1) ++ l2 ∧ ∀ j ∈ l2, i < j := by
  obtain ⟨d, rfl⟩ : ∃ d, n = (i + 1) + d := ⟨n - (i + 1), by omega⟩
  refine ⟨((List.range d).map ((i + 1) + ·)).filter (fun j => lm e z j == j), ?_, fun j hj => ?_⟩
  · unfold mksF
    rw [List.range_add, List.filter_append]
  · obtain ⟨a, _, rfl⟩ := List.mem_map.1 (List.mem_filter.1 hj).1
    omega
theorem findF (i n : Nat) (h : i < n) : (stF e z n).find (10 * (i : Int)) = posF z (lm e z i) := by
  obtain ⟨l2, hl, h2⟩ := mksF_cut (e := e) (z := z) i n h
  have hlast := mksF_last (e := e) (z := z) i
  have hc : (stF e z n).cnt (10 * (i : Int)) = (mksF e z (i + 1)).length := by
    rw [cnt_eq]
    show ((mksF e z n).map (mkF z)).countP _ = _
    rw [List.countP_map, hl, List.countP_append]
    have a1 : (mksF e z (i + 1)).countP ((fun m : Mark => !decide (10 * (i : Int) < m.off)) ∘ mkF z) = (mksF e z (i + 1)).length := by
      rw [List.countP_eq_length]
      intro j hj
      have := mksF_lt hj
      simp [mkF]; omega
    have a2 : l2.countP ((fun m : Mark => !decide (10 * (i : Int) < m.off)) ∘ mkF z) = 0 := by
      rw [List.countP_eq_zero]
      intro j hj
      have := h2 j hj
      simp [mkF]; omega
    rw [a1, a2]; rfl
  have hpos : 0 < (mksF e z (i + 1)).length := by
    rcases List.eq_nil_or_concat (mksF e z (i + 1)) with e0 | ⟨_, _, e0⟩
    · rw [e0] at hlast; cases hlast
    · rw [e0]; simp
  unfold St.find
  rw [hc, if_neg (by omega)]
  show (((mksF e z n).map (mkF z)).getD _ _).pos = _
  rw [hl, List.map_append]
  rw [List.getLast?_eq_getElem?] at hlast
  simp only [List.getD]
  rw [List.getElem?_append_left (by rw [List.length_map]; omega), List.getElem?_map, hlast]
  rfl
theorem findF_none (n : Nat) : (stF e z n).find (-1) = 0 := by
  unfold St.find
  rw [if_pos]
  rw [cnt_eq, List.countP_eq_zero]
  intro m hm
  obtain ⟨j, hj, rfl⟩ := List.mem_map.1 hm
  show ¬ ((!decide ((-1 : Int) < 10 * (j : Int))) = true)
  rw [decide_eq_true (show (-1 : Int) < 10 * (j : Int) by omega)]
  simp
theorem monoF (n : Nat) (o : Int) : ∀ a b, a ≤ b → b < (stF e z n).marks.length → o < ((stF e z n).marks.getD a ⟨0, 0, 0⟩).off → o < ((stF e z n).marks.getD b ⟨0, 0, 0⟩).off := by
  intro a b hab hb ha
  have hb' : b < (mksF e z n).length := by simpa [stF] using hb
  have hs : (mksF e z n).Pairwise (· < ·) := List.Pairwise.filter _ List.pairwise_lt_range
  have ea : ((stF e z n).marks.getD a ⟨0, 0, 0⟩) = mkF z ((mksF e z n)[a]'(by omega)) := by simp [stF, List.getD, show a < (mksF e z n).length by omega]
  have eb : ((stF e z n).marks.getD b ⟨0, 0, 0⟩) = mkF z ((mksF e z n)[b]'hb') := by simp [stF, List.getD, hb']
  rw [ea] at ha
  rw [eb]
  by_cases e1 : a = b
  · subst e1; exact ha
  · have := List.pairwise_iff_getElem.1 hs a b (by omega) hb' (by omega)
    simp only [mkF] at ha ⊢
    omega
theorem whenF (n i : Nat) : ∃ o : Int, 0 ≤ o ∧ (stF e z (n + 1)).when (i : Int) = (o, decide (i ≤ lm e z n)) := by
  have hs : (mksF e z (n + 1)).Pairwise (· < ·) := List.Pairwise.filter _ List.pairwise_lt_range
  have hlast := mksF_last (e := e) (z := z) n
  have hmem : lm e z n ∈ mksF e z (n + 1) := List.mem_of_getLast? hlast
  unfold St.when
  cases hf : (stF e z (n + 1)).marks.find? (fun m => decide ((i : Int) ≤ m.time)) with
  | some m =>
    have hm := List.mem_of_find?_eq_some hf
    have hp := List.find?_some hf
    obtain ⟨j, hj, rfl⟩ := List.mem_map.1 hm
    have hjl : j ≤ lm e z n := by
      obtain ⟨l, hl⟩ : ∃ l, mksF e z (n + 1) = l ++ [lm e z n] := List.getLast?_eq_some_iff.1 hlast
      rw [hl] at hs hj
      rcases List.mem_append.1 hj with hj | hj
      · exact Nat.le_of_lt ((List.pairwise_append.1 hs).2.2 j hj _ (List.mem_singleton.2 rfl))
      · rw [List.mem_singleton] at hj; omega
    have hp' : (i : Int) ≤ (j : Int) := of_decide_eq_true hp
    exact ⟨10 * (j : Int), by omega, by rw [decide_eq_true (show i ≤ lm e z n by omega)]; rfl⟩
  | none =>
    rw [List.find?_eq_none] at hf
    have h0 := hf _ (List.mem_map.2 ⟨_, hmem, rfl⟩)
    have h1 : ¬ (i : Int) ≤ ((lm e z n : Nat) : Int) := fun h => h0 (decide_eq_true h)
    exact ⟨0, by omega, by rw [decide_eq_false (show ¬ i ≤ lm e z n by omega)]⟩
end Go.Proofs.YteeadlefbehhfaaDoor.Ix
