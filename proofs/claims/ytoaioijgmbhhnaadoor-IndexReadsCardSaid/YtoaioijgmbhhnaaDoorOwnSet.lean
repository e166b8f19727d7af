/-
  A byte of memory of the call's own is turned; what its sum is then.
-/
import Derived.Test.YtoaioijgmbhhnaaDoorOf
import Derived.Test.YtoaioijgmbhhnaaDoorOwnArg
import Derived.Test.YtoaioijgmbhhnaaDoorDetect
namespace Go.Proofs.YtoaioijgmbhhnaaDoor
open Go.RowKit Crc

theorem reads_cell {w : World} {b off : Nat} {l : List UInt8} (h : Reads w (some ⟨b, off, none⟩) l) (k : Nat) (hk : k < l.length) : w.cell? ⟨b, off + k, none⟩ = some (.int .u8 (B (l.getD k 0))) := by
  rcases h with rfl | ⟨b', off', e, hb, hc⟩
  · simp at hk
  · obtain ⟨rfl, rfl⟩ : b = b' ∧ off = off' := by simpa using e
    exact hc k hk
/-- What is owned, where there is something: its block, its room, each cell, free to write. -/
theorem Own.open_ {w : World} {base : Nat} {v : Value} {l : List UInt8} (h : Own w base v l) (hl : 0 < l.length) :
    ∃ g c, v = .slice (some ⟨g, 0, none⟩) l.length c ∧ base ≤ g ∧ g < w.heap.size ∧ Arg w (some ⟨g, 0, none⟩) c l ∧ (∀ k, w.frozen? ⟨g, k, none⟩ = false) ∧
      ∀ k (x : UInt8), k < l.length → Reads (w.setCell ⟨g, k, none⟩ (.int .u8 (B x))) (some ⟨g, 0, none⟩) (l.set k x) := by
  have hr := h.reads
  rcases h.2 with ⟨_, h0⟩ | ⟨g, cap, cur, rfl, hg, hh, hn, hm, hs, ht⟩
  · omega
  obtain ⟨A, c, hv, hr, _⟩ := hr
  injection hv with hA _ hc
  subst hA hc
  have hlt : g < w.heap.size := by
    rcases Nat.lt_or_ge g w.heap.size with h | h
    · exact h
    · rw [Array.getElem?_eq_none h] at hh; cases hh
  refine ⟨g, cap, rfl, hg, hlt, ⟨hn, by simpa [maxLen] using hm, fun e => (by cases e), hr⟩, fun k => by simp [World.frozen?, hh], fun k x hk => .inr ⟨g, 0, rfl, by simpa [World.setCell] using hlt, fun j hj => ?_⟩⟩
  have hj' : j < l.length := by simpa using hj
  have hcj := reads_cell hr j hj'
  rw [Nat.zero_add] at hcj ⊢
  by_cases hjk : j = k
  · subst hjk
    rw [World.cell?_setCell_same _ _ _ hcj]
    simp [List.getD, hj']
  · rw [World.cell?_setCell_other _ _ _ _ (by simp [hjk]), hcj]
    congr 2
    simp [List.getD, List.getElem?_set, Ne.symm hjk]

theorem getD_eq (l : List UInt8) (k : Nat) (h : k < l.length) : l.getD k 0 = l[k] := by simp [List.getD, h]
theorem not_opens_setD (t : List UInt8) (k : Nat) (b : UInt8) (hk : k < t.length) (hb : b ≠ 0) (h4 : 4 ≤ t.length) (ho : Crc.opens t) : ¬ Crc.opens (t.set k (t.getD k 0 ^^^ b)) := by
  rw [getD_eq t k hk]; exact not_opens_set t k b hk hb h4 ho
theorem sum_set_neD (l : List UInt8) (k : Nat) (b : UInt8) (hk : k < l.length) (hb : b ≠ 0) : sum (l.set k (l.getD k 0 ^^^ b)) ≠ sum l := by
  rw [getD_eq l k hk]; exact sum_set_ne l k b hk hb
end Go.Proofs.YtoaioijgmbhhnaaDoor
