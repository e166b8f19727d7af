/-
  What IndexCuts does, plainly: an index cut at a batch's place.
-/
import Derived.Test.YteeadlefbehhfaaDoorIxR
import Derived.Test.YteeadlefbehhfaaDoorIxK
namespace Go.Proofs.YteeadlefbehhfaaDoor.Ix

def mkC (z : Nat → Int) (i : Nat) : Mark := ⟨(i : Int), (i : Int), posF z i⟩
def adC (z : Nat → Int) (i : Nat) : Ad := ⟨(i : Int), posF z i⟩
def stC (e : Int) (z : Nat → Int) (k : Nat) : St := ⟨e, (mksF e z k).map (mkC z), (List.range k).map (adC z), timeF k⟩
variable {e : Int} {z : Nat → Int}
theorem stC_zero (e : Int) (z : Nat → Int) : stC e z 0 = new e := rfl
theorem addC (he : 1 ≤ e) (hz : ∀ i, 1 ≤ z i ∧ z i ≤ 90) (k : Nat) (hk : k ≤ 1000) : add (stC e z k) (k : Int) (k : Int) (posF z k) (z k) = (none, stC e z (k + 1)) := by
  have hp := posF_le hz k
  have hb : behind (stC e z k).adds (k : Int) (posF z k) := by
    intro a ha
    cases k with
    | zero => cases ha
    | succ k =>
      obtain rfl := (last_range (adC z) k a).1 ha
      have := posF_lt (z := z) (fun i => (hz i).1) (show k < k + 1 by omega)
      simp only [adC]; omega
  have hd : due (stC e z k) (posF z k) ↔ lm e z k = k := by
    cases k with
    | zero => exact ⟨fun _ => rfl, fun _ m hm => by cases hm⟩
    | succ k =>
      have hl : (stC e z (k + 1)).marks.getLast? = some (mkC z (lm e z k)) := (last_map _ _ _).2 ⟨_, mksF_last k, rfl⟩
      have hle := lm_le (e := e) (z := z) k
      constructor
      · intro h
        have := h _ hl
        exact if_pos this
      · intro h m hm
        rw [hl] at hm
        cases hm
        by_cases c : e ≤ posF z (k + 1) - posF z (lm e z k)
        · exact c
        · have : lm e z (k + 1) = lm e z k := if_neg c
          omega
  have hg : good (stC e z k) (k : Int) (k : Int) (posF z k) (z k) := ⟨⟨by omega, by omega⟩, ⟨by omega, by omega⟩, (hz k).1, ⟨by omega, by omega⟩, hb⟩
  have ht : max (timeF k) (k : Int) = timeF (k + 1) := by
    cases k with
    | zero => rfl
    | succ k => show max (k : Int) ((k + 1 : Nat) : Int) = ((k + 1 : Nat) : Int); omega
  unfold add
  rw [if_pos hg]
  unfold put
  rw [show max (stC e z k).time (k : Int) = timeF (k + 1) from ht]
  by_cases h : lm e z k = k
  · rw [if_pos (hd.2 h)]
    simp only [stC, mksF_succ, if_pos h, List.map_append, List.map_cons, List.map_nil, List.range_succ, mkC, adC]
    rfl
  · rw [if_neg (fun c => h (hd.1 c))]
    simp only [stC, mksF_succ, if_neg h, List.append_nil, List.map_append, List.map_cons, List.map_nil, List.range_succ, adC]
theorem cntM_eq (s : St) (p : Int) : s.cntM p = s.marks.countP (fun m => !decide (p ≤ m.pos)) := countP_getD _ (fun m : Mark => !decide (p ≤ m.pos)) s.marks
theorem cntA_eq (s : St) (p : Int) : s.cntA p = s.adds.countP (fun m => !decide (p ≤ m.pos)) := countP_getD _ (fun m : Ad => !decide (p ≤ m.pos)) s.adds
theorem mksF_at (k n : Nat) (h : k ≤ n) : ∃ l2, mksF e z n = mksF e z k ++ l2 ∧ ∀ j ∈ l2, k ≤ j := by
  obtain ⟨d, rfl⟩ : ∃ d, n = k + d := ⟨n - k, by omega⟩
  refine ⟨((List.range d).map (k + ·)).filter (fun j => lm e z j == j), ?_, fun j hj => ?_⟩
  · unfold mksF
    rw [List.range_add, List.filter_append]
  · obtain ⟨a, _, rfl⟩ := List.mem_map.1 (List.mem_filter.1 hj).1
    omega
theorem posF_mono (hz : ∀ i, 1 ≤ z i) {i j : Nat} (h : i ≤ j) : posF z i ≤ posF z j := by
  by_cases e : i = j
  · subst e; exact Int.le_refl _
  · exact Int.le_of_lt (posF_lt hz (by omega))
theorem marks_cut (hz : ∀ i, 1 ≤ z i) (k n : Nat) (h : k ≤ n) : (stC e z n).marks.take ((stC e z n).cntM (posF z k)) = (stC e z k).marks := by
  obtain ⟨l2, hl, h2⟩ := mksF_at (e := e) (z := z) k n h
  have hc : (stC e z n).cntM (posF z k) = (mksF e z k).length := by
    rw [cntM_eq]
    show ((mksF e z n).map (mkC z)).countP _ = _
    rw [List.countP_map, hl, List.countP_append]
    have a1 : (mksF e z k).countP ((fun m : Mark => !decide (posF z k ≤ m.pos)) ∘ mkC z) = (mksF e z k).length := by
      rw [List.countP_eq_length]
      intro j hj
      have := posF_lt hz (mksF_lt hj)
      show (!decide (posF z k ≤ posF z j)) = true
      rw [decide_eq_false (by omega)]; rfl
    have a2 : l2.countP ((fun m : Mark => !decide (posF z k ≤ m.pos)) ∘ mkC z) = 0 := by
      rw [List.countP_eq_zero]
      intro j hj
      have := posF_mono hz (h2 j hj)
      show ¬ (!decide (posF z k ≤ posF z j)) = true
      rw [decide_eq_true (by omega)]; decide
    rw [a1, a2]; rfl
  rw [hc]
  show ((mksF e z n).map (mkC z)).take _ = (mksF e z k).map (mkC z)
  rw [hl, List.map_append, List.take_append_of_le_length (by simp), List.take_of_length_le (by simp)]
theorem adds_cut (hz : ∀ i, 1 ≤ z i) (k n : Nat) (h : k ≤ n) : (stC e z n).adds.take ((stC e z n).cntA (posF z k)) = (stC e z k).adds := by
  obtain ⟨d, rfl⟩ : ∃ d, n = k + d := ⟨n - k, by omega⟩
  have hl : (stC e z (k + d)).adds = (List.range k).map (adC z) ++ ((List.range d).map (k + ·)).map (adC z) := by
    show (List.range (k + d)).map (adC z) = _
    rw [List.range_add, List.map_append]
  have hc : (stC e z (k + d)).cntA (posF z k) = k := by
    rw [cntA_eq, hl, List.countP_append, List.countP_map, List.countP_map]
    have a1 : (List.range k).countP ((fun m : Ad => !decide (posF z k ≤ m.pos)) ∘ adC z) = (List.range k).length := by
      rw [List.countP_eq_length]
      intro j hj
      have := posF_lt hz (List.mem_range.1 hj)
      show (!decide (posF z k ≤ posF z j)) = true
      rw [decide_eq_false (by omega)]; rfl
    have a2 : ((List.range d).map (k + ·)).countP ((fun m : Ad => !decide (posF z k ≤ m.pos)) ∘ adC z) = 0 := by
      rw [List.countP_eq_zero]
      intro j hj
      obtain ⟨a, _, rfl⟩ := List.mem_map.1 hj
      have := posF_mono hz (show k ≤ k + a by omega)
      show ¬ (!decide (posF z k ≤ posF z (k + a))) = true
      rw [decide_eq_true (by omega)]; decide
    rw [a1, a2, List.length_range]; rfl
  rw [hc, hl]
  show _ = (List.range k).map (adC z)
  rw [List.take_append_of_le_length (by simp), List.take_of_length_le (by simp)]
/-- What is left behind a cut at batch k. -/
def cutC (e : Int) (z : Nat → Int) (k : Nat) : St := ⟨e, (stC e z k).marks, (stC e z k).adds, lastTime (stC e z k).marks⟩
theorem cut_stC (hz : ∀ i, 1 ≤ z i) (k n : Nat) (h : k ≤ n) : (stC e z n).cut (posF z k) = cutC e z k := by
  unfold St.cut cutC
  rw [marks_cut hz k n h, adds_cut hz k n h]; rfl
theorem add_cutC (hz : ∀ i, 1 ≤ z i ∧ z i ≤ 90) (k : Nat) (hk : k ≤ 60) : (add (cutC e z k) 1000 0 1048576 5).1 = none := by
  have hb : behind (cutC e z k).adds 1000 1048576 := by
    intro a ha
    cases k with
    | zero => cases ha
    | succ k =>
      obtain rfl := (last_range (adC z) k a).1 ha
      have := posF_le hz k
      simp only [adC]; omega
  have hg : good (cutC e z k) 1000 0 1048576 5 := ⟨⟨by omega, by omega⟩, ⟨by omega, by omega⟩, by omega, ⟨by omega, by omega⟩, hb⟩
  unfold add
  rw [if_pos hg]
theorem mono_marksC (hz : ∀ i, 1 ≤ z i) (n : Nat) (p : Int) : ∀ a b, a ≤ b → b < (stC e z n).marks.length → p ≤ ((stC e z n).marks.getD a ⟨0, 0, 0⟩).pos → p ≤ ((stC e z n).marks.getD b ⟨0, 0, 0⟩).pos := by
  intro a b hab hb ha
  have hb' : b < (mksF e z n).length := by simpa [stC] using hb
  have hs : (mksF e z n).Pairwise (· < ·) := List.Pairwise.filter _ List.pairwise_lt_range
  have ea : ((stC e z n).marks.getD a ⟨0, 0, 0⟩) = mkC z ((mksF e z n)[a]'(by omega)) := by simp [stC, List.getD, show a < (mksF e z n).length by omega]
  have eb : ((stC e z n).marks.getD b ⟨0, 0, 0⟩) = mkC z ((mksF e z n)[b]'hb') := by simp [stC, List.getD, hb']
  rw [ea] at ha
  rw [eb]
  by_cases e1 : a = b
  · subst e1; exact ha
  · have := posF_mono hz (Nat.le_of_lt (List.pairwise_iff_getElem.1 hs a b (by omega) hb' (by omega)))
    simp only [mkC] at ha ⊢
    omega
theorem mono_addsC (hz : ∀ i, 1 ≤ z i) (n : Nat) (p : Int) : ∀ a b, a ≤ b → b < (stC e z n).adds.length → p ≤ ((stC e z n).adds.getD a ⟨0, 0⟩).pos → p ≤ ((stC e z n).adds.getD b ⟨0, 0⟩).pos := by
  intro a b hab hb ha
  have hb' : b < n := by simpa [stC] using hb
  have ea : ((stC e z n).adds.getD a ⟨0, 0⟩) = adC z a := by simp [stC, List.getD, show a < n by omega]
  have eb : ((stC e z n).adds.getD b ⟨0, 0⟩) = adC z b := by simp [stC, List.getD, hb']
  rw [ea] at ha
  rw [eb]
  have := posF_mono hz hab
  simp only [adC] at ha ⊢
  omega
theorem Ok.cut {s : St} (h : Ok s) (p : Int) : Ok (s.cut p) := by
  refine ⟨h.every, ?_, fun m hm => h.marks m (List.mem_of_mem_take hm), fun a ha => h.adds a (List.mem_of_mem_take ha)⟩
  show okT (lastTime (s.marks.take (s.cntM p)))
  unfold lastTime
  cases hl : (s.marks.take (s.cntM p)).getLast? with
  | none => exact ⟨by show (-1099511627776 : Int) ≤ -1099511627776; omega, by show (-1099511627776 : Int) ≤ 1099511627776; omega⟩
  | some m => exact (h.marks m (List.mem_of_mem_take (List.mem_of_getLast? hl))).2.1
end Go.Proofs.YteeadlefbehhfaaDoor.Ix
