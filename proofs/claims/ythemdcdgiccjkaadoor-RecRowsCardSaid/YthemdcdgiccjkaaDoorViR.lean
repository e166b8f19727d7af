/-
  A reader of numbers, plainly: where it is, and what was amiss. Nothing of any program is named here.
-/
import Derived.Test.YthemdcdgiccjkaaDoorVi
namespace Go.Proofs.YthemdcdgiccjkaaDoor.Vi

/-- Where a reader is; the error's number (0: none), the place around it, if there is one. -/
structure Rs where
  at_ : Nat
  code : Nat
  pos : Option Nat

def Rs.fail (s : Rs) (c : Nat) : Rs := if c = 101 then ⟨s.at_, 101, none⟩ else ⟨s.at_, c, some s.at_⟩
/-- The number that comes next, at most so great, and how many bytes it has: the reader stays ahead of them. -/
def peek (l : List UInt8) (s : Rs) (most : Nat) : Nat × Nat × Rs :=
  if s.code ≠ 0 then (0, 0, s)
  else
    let g := get 0 0 (l.drop s.at_)
    if g.2.2 ≠ 0 then (0, 0, s.fail g.2.2) else if most < g.1 then (0, 0, s.fail 105) else (g.1, g.2.1, s)
def peekI (l : List UInt8) (s : Rs) (lo hi : Int) : Int × Nat × Rs :=
  if s.code ≠ 0 then (0, 0, s)
  else
    let g := get 0 0 (l.drop s.at_)
    if g.2.2 ≠ 0 then (0, 0, s.fail g.2.2) else if unzz g.1 < lo ∨ hi < unzz g.1 then (0, 0, s.fail 105) else (unzz g.1, g.2.1, s)
def Rs.on (s : Rs) (k : Nat) : Rs := ⟨s.at_ + k, s.code, s.pos⟩
def num (l : List UInt8) (s : Rs) (most : Nat) : Nat × Rs := ((peek l s most).1, (peek l s most).2.2.on (peek l s most).2.1)
def int (l : List UInt8) (s : Rs) (lo hi : Int) : Int × Rs := ((peekI l s lo hi).1, (peekI l s lo hi).2.2.on (peekI l s lo hi).2.1)
/-- A text of at most so many bytes. -/
def text (l : List UInt8) (s : Rs) (most : Nat) : List UInt8 × Rs :=
  let q := peek l s most
  if q.2.2.code ≠ 0 then ([], q.2.2)
  else if l.length < s.at_ + q.2.1 + q.1 then ([], s.fail 101)
  else ((l.drop (s.at_ + q.2.1)).take q.1, s.on (q.2.1 + q.1))
/-- Bytes, the lowest first, as a number. -/
def little : List UInt8 → Nat
  | [] => 0
  | c :: l => c.toNat + 256 * little l
def fixed (l : List UInt8) (s : Rs) (n : Int) : Nat × Rs :=
  if s.code ≠ 0 ∨ n < 0 ∨ 8 < n then (0, s)
  else if l.length < s.at_ + n.toNat then (0, s.fail 101)
  else (little ((l.drop s.at_).take n.toNat), s.on n.toNat)

/-- What a reader is in. -/
structure Ok (l : List UInt8) (s : Rs) : Prop where
  le : s.at_ ≤ l.length
  code : (s.code = 0 ∧ s.pos = none) ∨ (s.code = 101 ∧ s.pos = none) ∨ ((s.code = 103 ∨ s.code = 105) ∧ s.pos = some s.at_)

theorem Ok.fail {l : List UInt8} {s : Rs} (h : Ok l s) {c : Nat} (hc : c = 101 ∨ c = 103 ∨ c = 105) : Ok l (s.fail c) := by
  unfold Rs.fail
  refine ⟨by split <;> exact h.le, ?_⟩
  rcases hc with rfl | rfl | rfl <;> simp
theorem getD_bd (l : List UInt8) (s : Rs) : (get 0 0 (l.drop s.at_)).1 < 18446744073709551616 ∧ (get 0 0 (l.drop s.at_)).2.1 ≤ l.length - s.at_ ∧ (get 0 0 (l.drop s.at_)).2.1 ≤ 10 ∧ ((get 0 0 (l.drop s.at_)).2.2 = 0 ∨ (get 0 0 (l.drop s.at_)).2.2 = 101 ∨ (get 0 0 (l.drop s.at_)).2.2 = 103) := by
  obtain ⟨h1, h2, h3, h4, _⟩ := get_lt (l.drop s.at_) 0 0 (by omega) (by omega)
  rw [List.length_drop] at h2
  exact ⟨h1, by omega, h3, h4⟩
theorem peek_ok {l : List UInt8} {s : Rs} (h : Ok l s) (most : Nat) : Ok l (peek l s most).2.2 ∧ (peek l s most).2.2.at_ = s.at_ ∧ s.at_ + (peek l s most).2.1 ≤ l.length ∧ (peek l s most).1 < 18446744073709551616 := by
  obtain ⟨h1, h2, h3, h4⟩ := getD_bd l s
  have hle := h.le
  unfold peek
  by_cases hc : s.code ≠ 0
  · rw [if_pos hc]; exact ⟨h, rfl, by simp; omega, by simp⟩
  · rw [if_neg hc]
    simp only
    by_cases hg : (get 0 0 (l.drop s.at_)).2.2 ≠ 0
    · rw [if_pos hg]
      refine ⟨h.fail (by omega), ?_, by simp; omega, by simp⟩
      unfold Rs.fail; split <;> rfl
    · rw [if_neg hg]
      by_cases hm : most < (get 0 0 (l.drop s.at_)).1
      · rw [if_pos hm]
        exact ⟨h.fail (.inr (.inr rfl)), rfl, by simp; omega, by simp⟩
      · rw [if_neg hm]
        exact ⟨h, rfl, by simp; omega, h1⟩
theorem peekI_ok {l : List UInt8} {s : Rs} (h : Ok l s) (lo hi : Int) : Ok l (peekI l s lo hi).2.2 ∧ (peekI l s lo hi).2.2.at_ = s.at_ ∧ s.at_ + (peekI l s lo hi).2.1 ≤ l.length := by
  obtain ⟨h1, h2, h3, h4⟩ := getD_bd l s
  have hle := h.le
  unfold peekI
  by_cases hc : s.code ≠ 0
  · rw [if_pos hc]; exact ⟨h, rfl, by simp; omega⟩
  · rw [if_neg hc]
    simp only
    by_cases hg : (get 0 0 (l.drop s.at_)).2.2 ≠ 0
    · rw [if_pos hg]
      refine ⟨h.fail (by omega), ?_, by simp; omega⟩
      unfold Rs.fail; split <;> rfl
    · rw [if_neg hg]
      by_cases hm : unzz (get 0 0 (l.drop s.at_)).1 < lo ∨ hi < unzz (get 0 0 (l.drop s.at_)).1
      · rw [if_pos hm]
        exact ⟨h.fail (.inr (.inr rfl)), rfl, by simp; omega⟩
      · rw [if_neg hm]
        exact ⟨h, rfl, by simp; omega⟩
theorem peek_bad {l : List UInt8} {s : Rs} {most : Nat} (h : (peek l s most).2.2.code ≠ 0) : (peek l s most).1 = 0 ∧ (peek l s most).2.1 = 0 := by
  unfold peek at h ⊢
  by_cases hc : s.code ≠ 0
  · rw [if_pos hc]; exact ⟨rfl, rfl⟩
  · rw [if_neg hc] at h ⊢
    simp only at h ⊢
    by_cases hg : (get 0 0 (l.drop s.at_)).2.2 ≠ 0
    · rw [if_pos hg]; exact ⟨rfl, rfl⟩
    · rw [if_neg hg] at h ⊢
      by_cases hm : most < (get 0 0 (l.drop s.at_)).1
      · rw [if_pos hm]; exact ⟨rfl, rfl⟩
      · rw [if_neg hm] at h; exact absurd h hc
end Go.Proofs.YthemdcdgiccjkaaDoor.Vi
