/-
  What a plain reader reads of a number or a text laid there; its error at the end.
-/
import Derived.Test.YthemdcdgiccjkaaDoorVRdr
import Derived.Test.YthemdcdgiccjkaaDoorVGet
namespace Go.Proofs.YthemdcdgiccjkaaDoor
open Go.RowKit

/-- A reader that has met nothing amiss. -/
def fine (k : Nat) : Vi.Rs := ⟨k, 0, none⟩
def bad (k c : Nat) : Vi.Rs := ⟨k, c, some k⟩
theorem drop_pad (a b : List UInt8) (n : Nat) (h : a.length = n) : (a ++ b).drop n = b := by subst h; simp
theorem peek_at (l r : List UInt8) (k u most : Nat) (hu : u < 18446744073709551616) (h : l.drop k = Vi.put u ++ r) : Vi.peek l (fine k) most = if most < u then (0, 0, bad k 105) else (u, Vi.size u, fine k) := by
  unfold Vi.peek
  rw [if_neg (by simp [fine])]
  simp only [fine, h, get_of_put u r hu]
  rw [if_neg (by simp)]
  rfl
theorem num_at_hi (l r : List UInt8) (k u most : Nat) (hu : u < 18446744073709551616) (h : l.drop k = Vi.put u ++ r) (hm : most < u) : Vi.num l (fine k) most = (0, bad k 105) := by
  unfold Vi.num; rw [peek_at l r k u most hu h, if_pos hm]; rfl
theorem num_at_lo (l r : List UInt8) (k u most : Nat) (hu : u < 18446744073709551616) (h : l.drop k = Vi.put u ++ r) (hm : u ≤ most) : Vi.num l (fine k) most = (u, fine (k + Vi.size u)) := by
  unfold Vi.num; rw [peek_at l r k u most hu h, if_neg (by omega)]; rfl
theorem int_at (l r : List UInt8) (k : Nat) (n lo hi : Int) (h1 : -9223372036854775808 ≤ n) (h2 : n ≤ 9223372036854775807) (h : l.drop k = Vi.put (Vi.zz n) ++ r) : Vi.int l (fine k) lo hi = if n < lo ∨ hi < n then (0, bad k 105) else (n, fine (k + Vi.size (Vi.zz n))) := by
  unfold Vi.int Vi.peekI
  rw [if_neg (by simp [fine])]
  simp only [fine, h, get_of_put (Vi.zz n) r (Vi.zz_lt n h1 h2), Vi.unzz_zz]
  rw [if_neg (by simp)]
  by_cases hc : n < lo ∨ hi < n
  · rw [if_pos hc, if_pos hc]; rfl
  · rw [if_neg hc, if_neg hc]; rfl
theorem int_bad (l : List UInt8) (k c : Nat) (hc : c ≠ 0) (lo hi : Int) : Vi.int l (bad k c) lo hi = (0, bad k c) := by
  unfold Vi.int Vi.peekI
  rw [if_pos (by simpa [bad] using hc)]; rfl
theorem fixed_one (l : List UInt8) (k : Nat) (h : k < l.length) : (Vi.fixed l (fine k) 1).2 = fine (k + 1) := by
  unfold Vi.fixed
  rw [if_neg (by simp [fine]), if_neg (by simp only [fine]; omega)]; rfl
theorem text_hi (l r : List UInt8) (u most : Nat) (hu : u < 18446744073709551616) (h : l = Vi.put u ++ r) (hm : most < u) : Vi.text l (fine 0) most = ([], bad 0 105) := by
  unfold Vi.text
  simp only [peek_at l r 0 u most hu (by simpa using h), if_pos hm]
  rw [if_pos (by simp [bad])]
theorem text_lo (l b r : List UInt8) (most : Nat) (hu : b.length < 18446744073709551616) (h : l = Vi.put b.length ++ (b ++ r)) (hm : b.length ≤ most) : Vi.text l (fine 0) most = (b, fine (Vi.size b.length + b.length)) := by
  unfold Vi.text
  simp only [peek_at l (b ++ r) 0 b.length most hu (by simpa using h), if_neg (show ¬ most < b.length by omega)]
  have hl : l.length = Vi.size b.length + (b.length + r.length) := by rw [h, List.length_append, List.length_append]; rfl
  rw [if_neg (by simp [fine]), if_neg (by simp only [fine]; omega)]
  have hd : l.drop (0 + Vi.size b.length) = b ++ r := by rw [h, Nat.zero_add]; exact drop_pad _ _ _ rfl
  simp only [fine] at hd ⊢
  rw [hd]
  simp [Vi.Rs.on]
theorem text_cut (l b : List UInt8) (k most : Nat) (hu : b.length < 18446744073709551616) (hl : l = (Vi.put b.length ++ b).take k) (hk : k < Vi.size b.length + b.length) (hm : b.length ≤ most) : Vi.text l (fine 0) most = ([], ⟨0, 101, none⟩) := by
  have hpl : (Vi.put b.length).length = Vi.size b.length := rfl
  by_cases h : Vi.size b.length ≤ k
  · have hl2 : l = Vi.put b.length ++ b.take (k - Vi.size b.length) := by
      rw [hl, List.take_append, hpl, List.take_of_length_le (by rw [hpl]; exact h)]
    unfold Vi.text
    simp only [peek_at l (b.take (k - Vi.size b.length)) 0 b.length most hu (by simpa using hl2), if_neg (show ¬ most < b.length by omega)]
    have hll : l.length = k := by rw [hl, List.length_take, List.length_append, hpl]; omega
    rw [if_neg (by simp [fine]), if_pos (by simp only [fine]; omega)]
    rfl
  · have hl2 : l = (Vi.put b.length).take k := by rw [hl, List.take_append_of_le_length (by rw [hpl]; omega)]
    have hg : ∀ (j m i a : Nat), j < Vi.size m → i + Vi.size m ≤ 10 → Vi.get i a ((Vi.put m).take j) = (0, 0, 101) := by
      intro j
      induction j with
      | zero => intro m i a h1 h2; rw [List.take_zero, Vi.get, if_pos (by omega)]
      | succ j ih =>
        intro m i a h1 h2
        by_cases hm : m < 128
        · rw [Vi.size_lt hm] at h1; omega
        · rw [Vi.size_ge (by omega)] at h1 h2
          rw [Vi.put_ge (by omega), List.take_succ_cons, Vi.get, Vi.byte_toNat (by omega), if_neg (by have := Vi.size_pos (m / 128); omega), if_pos (by omega)]
          exact ih (m / 128) (i + 1) _ (by omega) (by omega)
    have hp : Vi.peek l (fine 0) most = (0, 0, ⟨0, 101, none⟩) := by
      unfold Vi.peek
      rw [if_neg (by simp [fine])]
      simp only [fine, List.drop_zero, hl2, hg k b.length 0 0 (by omega) (by have := Vi.size_le10 hu; omega)]
      rw [if_pos (by simp)]
      rfl
    unfold Vi.text
    simp only [hp]
    rw [if_pos (by simp)]

theorem ErrIs.ends {w : World} {p : Nat → Addr} {g : Nat} {E : Value} {s : Vi.Rs} (h : ErrIs w p g E s) (hc : s.code = 101) : E = errV (p 0) := by
  rcases h with ⟨h, _⟩ | ⟨_, _, h⟩ | ⟨a, q, h, _⟩
  · omega
  · exact h
  · omega
end Go.Proofs.YthemdcdgiccjkaaDoor
