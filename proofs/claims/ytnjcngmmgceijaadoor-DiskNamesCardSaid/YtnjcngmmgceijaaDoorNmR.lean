/-
  Texts that rise, each once, plainly: put in place one by one, or sorted and made compact: one list.
-/
import Derived.Test.YtnjcngmmgceijaaDoorNm
import Derived.Lib.SlicesCompact
namespace Go.Proofs.YtnjcngmmgceijaaDoor.Nm

abbrev Tx := List UInt8
theorem tx_tri (a b : Tx) : a < b ∨ a = b ∨ b < a := by
  by_cases h1 : a < b
  · exact .inl h1
  · by_cases h2 : b < a
    · exact .inr (.inr h2)
    · exact .inr (.inl (List.le_antisymm (List.not_lt.1 h2) (List.not_lt.1 h1)))
/-- Two lists that rise, with the same members, are one. -/
theorem strict_ext : ∀ (a b : List Tx), a.Pairwise (· < ·) → b.Pairwise (· < ·) → (∀ x, x ∈ a ↔ x ∈ b) → a = b
  | [], [], _, _, _ => rfl
  | [], y :: b, _, _, h => absurd ((h y).2 (List.mem_cons_self ..)) List.not_mem_nil
  | x :: a, [], _, _, h => absurd ((h x).1 (List.mem_cons_self ..)) List.not_mem_nil
  | x :: a, y :: b, ha, hb, h => by
    rw [List.pairwise_cons] at ha hb
    have hxy : x = y := by
      rcases List.mem_cons.1 ((h x).1 (List.mem_cons_self ..)) with e | e
      · exact e
      · rcases List.mem_cons.1 ((h y).2 (List.mem_cons_self ..)) with e2 | e2
        · exact e2.symm
        · exact absurd (List.lt_trans (hb.1 x e) (ha.1 y e2)) (List.lt_irrefl _)
    subst hxy
    rw [strict_ext a b ha.2 hb.2 fun z => ?_]
    constructor
    · intro hz
      rcases List.mem_cons.1 ((h z).1 (List.mem_cons_of_mem _ hz)) with e | e
      · subst e; exact absurd (ha.1 _ hz) (List.lt_irrefl _)
      · exact e
    · intro hz
      rcases List.mem_cons.1 ((h z).2 (List.mem_cons_of_mem _ hz)) with e | e
      · subst e; exact absurd (hb.1 _ hz) (List.lt_irrefl _)
      · exact e
/-- Put in place, once. -/
def ins (x : Tx) : List Tx → List Tx
  | [] => [x]
  | y :: l => if y < x then y :: ins x l else if y = x then y :: l else x :: y :: l
theorem mem_ins (x z : Tx) : ∀ l, z ∈ ins x l ↔ z = x ∨ z ∈ l
  | [] => by simp [ins]
  | y :: l => by
    unfold ins
    split
    · rw [List.mem_cons, mem_ins x z l, List.mem_cons]
      constructor
      · rintro (h | h | h)
        · exact .inr (.inl h)
        · exact .inl h
        · exact .inr (.inr h)
      · rintro (h | h | h)
        · exact .inr (.inl h)
        · exact .inl h
        · exact .inr (.inr h)
    · split
      · rename_i e; subst e; simp
      · simp
theorem ins_rises (x : Tx) : ∀ l, l.Pairwise (· < ·) → (ins x l).Pairwise (· < ·)
  | [], _ => by simp [ins]
  | y :: l, h => by
    rw [List.pairwise_cons] at h
    unfold ins
    split
    · rename_i hlt
      rw [List.pairwise_cons]
      refine ⟨fun z hz => ?_, ins_rises x l h.2⟩
      rcases (mem_ins x z l).1 hz with e | e
      · subst e; exact hlt
      · exact h.1 z e
    · rename_i hlt
      split
      · rw [List.pairwise_cons]; exact h
      · rename_i hne
        have hxy : x < y := by
          rcases tx_tri y x with e | e | e
          · exact absurd e hlt
          · exact absurd e hne
          · exact e
        rw [List.pairwise_cons, List.pairwise_cons]
        refine ⟨fun z hz => ?_, h⟩
        rcases List.mem_cons.1 hz with e | e
        · subst e; exact hxy
        · exact List.lt_trans hxy (h.1 z e)
def rising (l : List Tx) : List Tx := l.foldl (fun o x => ins x o) []
theorem rising_go : ∀ (l o : List Tx), o.Pairwise (· < ·) → (l.foldl (fun o x => ins x o) o).Pairwise (· < ·) ∧ ∀ z, z ∈ l.foldl (fun o x => ins x o) o ↔ z ∈ o ∨ z ∈ l
  | [], o, h => ⟨h, fun z => by simp⟩
  | x :: l, o, h => by
    obtain ⟨h1, h2⟩ := rising_go l (ins x o) (ins_rises x o h)
    refine ⟨h1, fun z => ?_⟩
    rw [List.foldl_cons, h2 z, mem_ins, List.mem_cons]
    constructor
    · rintro ((h | h) | h)
      · exact .inr (.inl h)
      · exact .inl h
      · exact .inr (.inr h)
    · rintro (h | h | h)
      · exact .inl (.inr h)
      · exact .inl (.inl h)
      · exact .inr h
theorem rising_rises (l : List Tx) : (rising l).Pairwise (· < ·) := (rising_go l [] List.Pairwise.nil).1
theorem mem_rising (l : List Tx) (z : Tx) : z ∈ rising l ↔ z ∈ l := by
  have := (rising_go l [] List.Pairwise.nil).2 z
  simpa [rising] using this
/-- Sorted texts made compact rise; the members are the same. -/
theorem compact_go (d : Array Tx) (hs : ∀ i j, i < j → j < d.size → d[i]! ≤ d[j]!) : ∀ m, m ≤ d.size → (Lib.compactUpTo d m).Pairwise (· < ·) ∧ (∀ z ∈ Lib.compactUpTo d m, ∃ j, j < m ∧ z = d[j]!) ∧ (∀ j, j < m → d[j]! ∈ Lib.compactUpTo d m)
  | 0, _ => ⟨by simp [Lib.compactUpTo], by simp [Lib.compactUpTo], fun j h => absurd h (Nat.not_lt_zero _)⟩
  | m + 1, hm => by
    obtain ⟨h1, h2, h3⟩ := compact_go d hs m (by omega)
    rw [Lib.compactUpTo_succ]
    by_cases hk : Lib.keeps d m = true
    · rw [if_pos hk]
      refine ⟨?_, ?_, ?_⟩
      · rw [List.pairwise_append]
        refine ⟨h1, List.pairwise_singleton _ _, fun a ha b hb => ?_⟩
        rw [List.mem_singleton.1 hb]
        obtain ⟨j, hj, rfl⟩ := h2 a ha
        have hle := hs j m hj (by omega)
        rcases tx_tri d[j]! d[m]! with e | e | e
        · exact e
        · exfalso
          have hm0 : 0 < m := by omega
          unfold Lib.keeps at hk
          have hne : d[m]! ≠ d[m - 1]! := by
            rcases of_decide_eq_true hk with e2 | e2
            · omega
            · exact e2
          apply hne
          have h4 := hs (m - 1) m (by omega) (by omega)
          have h5 : d[j]! ≤ d[m - 1]! := by
            by_cases e3 : j = m - 1
            · rw [e3]; exact List.le_refl _
            · exact hs j (m - 1) (by omega) (by omega)
          rw [e] at h5
          exact List.le_antisymm h5 h4
        · exact absurd e (List.not_lt.2 hle)
      · intro z hz
        rcases List.mem_append.1 hz with e | e
        · obtain ⟨j, hj, rfl⟩ := h2 z e; exact ⟨j, by omega, rfl⟩
        · exact ⟨m, by omega, List.mem_singleton.1 e⟩
      · intro j hj
        by_cases e : j = m
        · subst e; exact List.mem_append_right _ (List.mem_singleton.2 rfl)
        · exact List.mem_append_left _ (h3 j (by omega))
    · rw [if_neg hk, List.append_nil]
      refine ⟨h1, fun z hz => ?_, fun j hj => ?_⟩
      · obtain ⟨j, hj, rfl⟩ := h2 z hz; exact ⟨j, by omega, rfl⟩
      · by_cases e : j = m
        · subst e
          unfold Lib.keeps at hk
          have h5 : ¬ (j = 0 ∨ d[j]! ≠ d[j - 1]!) := fun h => hk (decide_eq_true h)
          have h6 : j ≠ 0 := fun h => h5 (.inl h)
          have h7 : d[j]! = d[j - 1]! := Classical.byContradiction fun h => h5 (.inr h)
          rw [h7]
          exact h3 (j - 1) (by omega)
        · exact h3 j (by omega)
theorem compact_rising (l zs : List Tx) (hp : ∀ z, z ∈ zs ↔ z ∈ l) (hs : zs.Pairwise (· ≤ ·)) : Lib.compact zs = rising l := by
  have ha : ∀ i, (h : i < zs.length) → zs.toArray[i]! = zs[i] := fun i h => by simp [h]
  obtain ⟨h1, h2, h3⟩ := compact_go zs.toArray (fun i j hij hj => by
    have hj' : j < zs.length := by simpa using hj
    rw [ha i (by omega), ha j hj']
    exact List.pairwise_iff_getElem.1 hs i j (by omega) hj' hij) zs.length (by simp)
  refine strict_ext _ _ h1 (rising_rises l) fun x => ?_
  rw [mem_rising, ← hp]
  constructor
  · intro hx
    obtain ⟨j, hj, rfl⟩ := h2 x hx
    rw [ha j hj]
    exact List.getElem_mem _
  · intro hx
    obtain ⟨j, hj, rfl⟩ := List.mem_iff_getElem.1 hx
    rw [← ha j hj]
    exact h3 j hj
theorem compact_le (zs : List Tx) : (Lib.compact zs).length ≤ zs.length := by
  unfold Lib.compact Lib.compactUpTo
  rw [List.length_map]
  exact Nat.le_trans (List.length_filter_le _ _) (by simp)
end Go.Proofs.YtnjcngmmgceijaaDoor.Nm
