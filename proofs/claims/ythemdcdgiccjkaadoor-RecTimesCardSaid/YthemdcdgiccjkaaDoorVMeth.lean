/-
  The walks through a reader's own small calls: Num, Int, At, Left, Err.
-/
import Derived.Test.YthemdcdgiccjkaaDoorVNextI
namespace Go.Proofs.YthemdcdgiccjkaaDoor
open Go.RowKit

theorem Rdr.at_add {w : World} {p : Nat → Addr} {g : Nat} {l : List UInt8} {s : Vi.Rs} (h : Rdr w p g l s) (k : Nat) (hk : s.at_ + k ≤ l.length) (hz : s.code ≠ 0 → k = 0) : Rdr (w.setCell ⟨g, 1, none⟩ (.int .i64 ((s.at_ : Int) + (k : Int)))) p g l (s.on k) := h.at_set k hk hz
/-- What the walks load. -/
theorem Rdr.cells {w : World} {p : Nat → Addr} {g : Nat} {l : List UInt8} {s : Vi.Rs} (h : Rdr w p g l s) : w.cell? ⟨g, 1, none⟩ = some (.int .i64 s.at_) ∧ w.frozen? ⟨g, 1, none⟩ = false ∧ g < w.heap.size := by
  obtain ⟨A, cap, E, h0, h1, h2, ha, hne, he⟩ := h.ex
  exact ⟨h1, h.free 1, h.lt⟩

set_option maxRecDepth 100000 in
set_option maxHeartbeats 400000 in
theorem num_any (w : World) (p : Nat → Addr) (g : Nat) (l : List UInt8) (s : Vi.Rs) (most : Nat) (h : Rdr w p g l s) (hs : Sents5 w p) (hl : l.length ≤ 1000000) :
    Calls Tryd.prog 51 #[.pointer (some ⟨g, 0, none⟩), .int .u64 most] w fun e w' => e = .returned (.int .u64 (Vi.num l s most).1) ∧ Rdr w' p g l (Vi.num l s most).2 ∧ But g w w' := by
  have HN := hide (next_any w p g l s most h hs hl)
  obtain ⟨-, o2, o3, -⟩ := Vi.peek_ok h.ok most
  have HB := hide (Vi.peek_bad (l := l) (s := s) (most := most))
  have HE : Hid (Vi.num l s most = ((Vi.peek l s most).1, (Vi.peek l s most).2.2.on (Vi.peek l s most).2.1)) := hide rfl
  rw [← o2] at o3
  clear h hs o2
  generalize Vi.peek l s most = q at *
  go_enter Tryd.func51, Tryd.ntmps51
  go_wp2_with fail
  refine HN.out.mono ?_
  rintro e w1 ⟨rfl, hr1, hb1⟩
  obtain ⟨c1, f1, t1⟩ := hr1.cells
  have HS := hide (hr1.at_add q.2.1 o3 (fun h => (HB.out h).2))
  have HBB := hide (hb1.trans (But.setCell g 1 w1 (.int .i64 ((q.2.2.at_ : Int) + (q.2.1 : Int)))))
  clear hr1 hb1 HN
  go_wp2_with fail
  go_ret
  rw [HE.out]
  exact ⟨rfl, HS.out, HBB.out⟩

theorem peekI_bad {l : List UInt8} {s : Vi.Rs} {lo hi : Int} (h : (Vi.peekI l s lo hi).2.2.code ≠ 0) : (Vi.peekI l s lo hi).2.1 = 0 := by
  unfold Vi.peekI at h ⊢
  by_cases hc : s.code ≠ 0
  · rw [if_pos hc]
  · rw [if_neg hc] at h ⊢
    simp only at h ⊢
    by_cases hg : (Vi.get 0 0 (l.drop s.at_)).2.2 ≠ 0
    · rw [if_pos hg]
    · rw [if_neg hg] at h ⊢
      by_cases hm : Vi.unzz (Vi.get 0 0 (l.drop s.at_)).1 < lo ∨ hi < Vi.unzz (Vi.get 0 0 (l.drop s.at_)).1
      · rw [if_pos hm]
      · rw [if_neg hm] at h; exact absurd h hc

set_option maxRecDepth 100000 in
set_option maxHeartbeats 400000 in
theorem int_any (w : World) (p : Nat → Addr) (g : Nat) (l : List UInt8) (s : Vi.Rs) (lo hi : Int) (h : Rdr w p g l s) (hs : Sents5 w p) (hl : l.length ≤ 1000000) :
    Calls Tryd.prog 53 #[.pointer (some ⟨g, 0, none⟩), .int .i64 lo, .int .i64 hi] w fun e w' => e = .returned (.int .i64 (Vi.int l s lo hi).1) ∧ Rdr w' p g l (Vi.int l s lo hi).2 ∧ But g w w' := by
  have HN := hide (nextI_any w p g l s lo hi h hs hl)
  obtain ⟨-, o2, o3⟩ := Vi.peekI_ok h.ok lo hi
  have HB := hide (peekI_bad (l := l) (s := s) (lo := lo) (hi := hi))
  have HE : Hid (Vi.int l s lo hi = ((Vi.peekI l s lo hi).1, (Vi.peekI l s lo hi).2.2.on (Vi.peekI l s lo hi).2.1)) := hide rfl
  rw [← o2] at o3
  clear h hs o2
  generalize Vi.peekI l s lo hi = q at *
  go_enter Tryd.func53, Tryd.ntmps53
  go_wp2_with fail
  refine HN.out.mono ?_
  rintro e w1 ⟨rfl, hr1, hb1⟩
  obtain ⟨c1, f1, t1⟩ := hr1.cells
  have HS := hide (hr1.at_add q.2.1 o3 (fun h => HB.out h))
  have HBB := hide (hb1.trans (But.setCell g 1 w1 (.int .i64 ((q.2.2.at_ : Int) + (q.2.1 : Int)))))
  clear hr1 hb1 HN
  go_wp2_with fail
  go_ret
  rw [HE.out]
  exact ⟨rfl, HS.out, HBB.out⟩

theorem rat_any (w : World) (p : Nat → Addr) (g : Nat) (l : List UInt8) (s : Vi.Rs) (h : Rdr w p g l s) :
    Calls Tryd.prog 59 #[.pointer (some ⟨g, 0, none⟩)] w fun e w' => e = .returned (.int .i64 s.at_) ∧ w = w' := by
  obtain ⟨c1, f1, t1⟩ := h.cells
  clear h
  go_enter Tryd.func59, Tryd.ntmps59
  go_wp2_with fail
  go_ret
  exact ⟨rfl, rfl⟩
theorem rleft_any (w : World) (p : Nat → Addr) (g : Nat) (l : List UInt8) (s : Vi.Rs) (h : Rdr w p g l s) (hl : l.length ≤ 1000000) :
    Calls Tryd.prog 60 #[.pointer (some ⟨g, 0, none⟩)] w fun e w' => e = .returned (.int .i64 ((l.length - s.at_ : Nat) : Int)) ∧ ∃ n, w' = w.drewN n := by
  obtain ⟨A, cap, E, h0, h1, h2, ha, hne, he⟩ := h.ex
  have hle := h.ok.le
  have HE : Hid (((l.length - s.at_ : Nat) : Int) = (l.length : Int) - s.at_) := by show _ = _; omega
  clear h ha hne he h2
  go_enter Tryd.func60, Tryd.ntmps60
  go_wp2_with fail
  go_quiet (fail)
  go_wp2_with fail
  go_ret
  exact ⟨by rw [HE.out]; rfl, _, rfl⟩
theorem rerr_any (w : World) (p : Nat → Addr) (g : Nat) (l : List UInt8) (s : Vi.Rs) (h : Rdr w p g l s) :
    Calls Tryd.prog 62 #[.pointer (some ⟨g, 0, none⟩)] w fun e w' => (∃ E, e = .returned E ∧ ErrIs w p g E s) ∧ w = w' := by
  obtain ⟨A, cap, E, h0, h1, h2, ha, hne, he⟩ := h.ex
  have hlt := h.lt
  have HE := hide he
  clear h ha hne he h0 h1
  go_enter Tryd.func62, Tryd.ntmps62
  go_wp2_with fail
  go_ret
  exact ⟨⟨E, rfl, HE.out⟩, rfl⟩
end Go.Proofs.YthemdcdgiccjkaaDoor
