/-
  The walks through a reader's next number.
  The walks through a reader's next number that may be below nothing.
  The walks through a reader's own small calls: Num, Int, At, Left, Err.
  The walks through bytes.Clone, NewReader, and a reader's Bytes and Fixed.
-/
import Derived.Test.YtcmgppacipdnaaaGreatDoorQVRdr
import Derived.Test.YtcmgppacipdnaaaGreatDoorQVi
import Derived.BigQuiet
import Derived.Deep.QuietTactic
import Derived.Lib.SliceRun
namespace Go.Proofs.YtcmgppacipdnaaaGreatDoor
open Go.RowKit

theorem ErrIs.bad {w : World} {p : Nat → Addr} {g : Nat} {E : Value} {s : Vi.Rs} (h : ErrIs w p g E s) (hc : s.code ≠ 0) : ∃ u x, E = .iface u x := by
  rcases h with ⟨h, _⟩ | ⟨_, _, h⟩ | ⟨a, q, _, _, h, _⟩
  · exact absurd h hc
  · exact ⟨_, _, h⟩
  · exact ⟨_, _, h⟩
theorem ErrIs.good {w : World} {p : Nat → Addr} {g : Nat} {E : Value} {s : Vi.Rs} (h : ErrIs w p g E s) (hc : s.code = 0) : E = .nilIface := by
  rcases h with ⟨_, _, h⟩ | ⟨h, _⟩ | ⟨a, q, h, _⟩
  · exact h
  · omega
  · omega
theorem fail_code (w : World) (p : Nat → Addr) (g : Nat) (l : List UInt8) (s : Vi.Rs) (c : Nat) (hc : c = 101 ∨ c = 103 ∨ c = 105) (h : Rdr w p g l s) (hs : SentsV w p) :
    Calls Tryz.prog 214 #[.pointer (some ⟨g, 0, none⟩), errV (p (c - 101))] w fun e w' => e = .returned (.tuple #[]) ∧ Rdr w' p g l (s.fail c) ∧ But g w w' := by
  rcases hc with rfl | rfl | rfl
  · exact fail_end w p g l s h hs
  · exact fail_at w p g l s 2 (.inl rfl) h hs
  · exact fail_at w p g l s 4 (.inr rfl) h hs

set_option maxRecDepth 100000 in
set_option maxHeartbeats 1000000 in
theorem next_bad (w : World) (p : Nat → Addr) (g : Nat) (l : List UInt8) (s : Vi.Rs) (most : Nat) (h : Rdr w p g l s) (hc : s.code ≠ 0) (F : Value) :
    Calls Tryz.prog 246 #[.pointer (some ⟨g, 0, none⟩), F, .int .u64 0, .int .u64 most] w fun e w' => e = .returned (.tuple #[.int .u64 0, .int .i64 0]) ∧ w = w' := by
  obtain ⟨A, cap, E, h0, h1, h2, ha, hne, he⟩ := h.ex
  obtain ⟨u, x, rfl⟩ := he.bad hc
  have k1 := neq_nil u x
  clear h hc ha hne he
  go_enter Tryz.func246, Tryz.ntmps246
  go_wp2_with fail
  go_ret2
  exact ⟨rfl, rfl⟩

set_option maxRecDepth 100000 in
set_option maxHeartbeats 1000000 in
theorem next_good (w : World) (p : Nat → Addr) (g : Nat) (l : List UInt8) (s : Vi.Rs) (most : Nat) (h : Rdr w p g l s) (hs : SentsV w p) (hl : l.length ≤ 1000000) (hc : s.code = 0) (a k c : Nat) (hg : Vi.get 0 0 (l.drop s.at_) = (a, k, c)) (h3 : c = 0 ∨ c = 101 ∨ c = 103) :
    Calls Tryz.prog 246 #[.pointer (some ⟨g, 0, none⟩), .func (.func 247) #[] #[], .int .u64 0, .int .u64 most] w fun e w' =>
      if c ≠ 0 then e = .returned (.tuple #[.int .u64 0, .int .i64 0]) ∧ Rdr w' p g l (s.fail c) ∧ But g w w'
      else if most < a then e = .returned (.tuple #[.int .u64 0, .int .i64 0]) ∧ Rdr w' p g l (s.fail 105) ∧ But g w w'
      else e = .returned (.tuple #[.int .u64 a, .int .i64 k]) ∧ Rdr w' p g l s ∧ But g w w' := by
  obtain ⟨A, cap, E, h0, h1, h2, ha, hne, he⟩ := h.ex
  obtain rfl := he.good hc
  have hle := h.ok.le
  have HR := hide h
  have HS := hide hs
  have HG := hide (fun W hW hS => get_at (cutA A cap s.at_) (cap - s.at_) (l.length - s.at_) (l.drop s.at_) W p a k c (by rw [List.length_drop]) hg (by omega) ((ha.below (w' := W) hW (Nat.le_refl _)).cut s.at_ hle) hS)
  have k1 := fun W => run_cut_l W A l.length cap s.at_ hle
  have hcap := ha.le
  clear ha hne he hs h hc hg
  go_enter Tryz.func246, Tryz.ntmps246
  go_wp2_with fail
  go_quiet (first | (go_at_call 247; exact Calls.quiet_of (HG.out _ (below_drewN (Below.refl _ _) _) (HS.out.below (below_drewN (Below.refl _ _) _)))))
  have HRQ := hide (HR.out.below (below_drewN (Below.refl w.heap.size w) nq))
  have HSQ := hide (HS.out.below (below_drewN (Below.refl w.heap.size w) nq))
  have HBQ := hide (But.drewN g w nq)
  clear k1
  by_cases hc0 : c = 0
  · subst hc0
    rw [show errOf p 0 = .nilIface from rfl]
    by_cases hm : most < a
    · have hm' : (most : Int) < (a : Int) := by omega
      have HM := hide hm
      have c4 : w.cell? ⟨3, 0, none⟩ = some (.iface 297 (.pointer (some (p 4)))) := HS.out.cell 4 (by omega)
      have k2 := neq_nil 297 (.pointer (some (p 4)))
      have HF := hide (fail_code (w.drewN nq) p g l s 105 (by omega) HRQ.out HSQ.out)
      rw [show 105 - 101 = 4 from rfl] at HF
      unfold errV at HF
      clear hm HG
      go_wp2_with fail
      refine HF.out.mono ?_
      rintro e w1 ⟨rfl, hr1, hb1⟩
      go_wp2_with fail
      go_ret2
      exact ⟨rfl, hr1, HBQ.out.trans hb1⟩
    · have HM := hide hm
      have hm' : ¬ (most : Int) < (a : Int) := by omega
      clear hm HG
      go_wp2_with fail
      go_ret2
      exact ⟨rfl, HRQ.out, HBQ.out⟩
  · have hE : errOf p c = .iface 297 (.pointer (some (p (c - 101)))) := by unfold errOf; rw [if_neg hc0]; rfl
    rw [hE]
    have k2 := neq_nil 297 (.pointer (some (p (c - 101))))
    have k3 := eqn_nil 297 (.pointer (some (p (c - 101))))
    have HF := hide (fail_code (w.drewN nq) p g l s c (by omega) HRQ.out HSQ.out)
    unfold errV at HF
    have HC := hide hc0
    clear hc0 hE HG
    go_wp2_with fail
    refine HF.out.mono ?_
    rintro e w1 ⟨rfl, hr1, hb1⟩
    go_wp2_with fail
    go_ret2
    exact ⟨rfl, hr1, HBQ.out.trans hb1⟩

theorem next_any (w : World) (p : Nat → Addr) (g : Nat) (l : List UInt8) (s : Vi.Rs) (most : Nat) (h : Rdr w p g l s) (hs : SentsV w p) (hl : l.length ≤ 1000000) :
    Calls Tryz.prog 246 #[.pointer (some ⟨g, 0, none⟩), .func (.func 247) #[] #[], .int .u64 0, .int .u64 most] w fun e w' => e = .returned (.tuple #[.int .u64 (Vi.peek l s most).1, .int .i64 (Vi.peek l s most).2.1]) ∧ Rdr w' p g l (Vi.peek l s most).2.2 ∧ But g w w' := by
  by_cases hc : s.code ≠ 0
  · have e : Vi.peek l s most = (0, 0, s) := by unfold Vi.peek; rw [if_pos hc]
    rw [e]
    exact (next_bad w p g l s most h hc _).mono fun e w' ⟨h1, h2⟩ => ⟨h1, h2 ▸ h, h2 ▸ But.refl g w⟩
  · have hc0 : s.code = 0 := by omega
    obtain ⟨_, _, _, h4⟩ := Vi.getD_bd l s
    refine (next_good w p g l s most h hs hl hc0 _ _ _ rfl h4).mono fun e w' hp => ?_
    unfold Vi.peek
    rw [if_neg hc]
    simp only
    by_cases h5 : (Vi.get 0 0 (l.drop s.at_)).2.2 ≠ 0
    · rw [if_pos h5] at hp ⊢; exact hp
    · rw [if_neg h5] at hp ⊢
      by_cases h6 : most < (Vi.get 0 0 (l.drop s.at_)).1
      · rw [if_pos h6] at hp ⊢; exact hp
      · rw [if_neg h6] at hp ⊢; exact hp
end Go.Proofs.YtcmgppacipdnaaaGreatDoor

namespace Go.Proofs.YtcmgppacipdnaaaGreatDoor
open Go.RowKit

set_option maxRecDepth 100000 in
set_option maxHeartbeats 1000000 in
theorem nextI_bad (w : World) (p : Nat → Addr) (g : Nat) (l : List UInt8) (s : Vi.Rs) (lo hi : Int) (h : Rdr w p g l s) (hc : s.code ≠ 0) (F : Value) :
    Calls Tryz.prog 244 #[.pointer (some ⟨g, 0, none⟩), F, .int .i64 lo, .int .i64 hi] w fun e w' => e = .returned (.tuple #[.int .i64 0, .int .i64 0]) ∧ w = w' := by
  obtain ⟨A, cap, E, h0, h1, h2, ha, hne, he⟩ := h.ex
  obtain ⟨u, x, rfl⟩ := he.bad hc
  have k1 := neq_nil u x
  clear h hc ha hne he
  go_enter Tryz.func244, Tryz.ntmps244
  go_wp2_with fail
  go_ret2
  exact ⟨rfl, rfl⟩

set_option maxRecDepth 100000 in
set_option maxHeartbeats 1000000 in
theorem nextI_good (w : World) (p : Nat → Addr) (g : Nat) (l : List UInt8) (s : Vi.Rs) (lo hi : Int) (h : Rdr w p g l s) (hs : SentsV w p) (hl : l.length ≤ 1000000) (hc : s.code = 0) (z : Int) (k c : Nat) (hg : (Vi.unzz (Vi.get 0 0 (l.drop s.at_)).1, (Vi.get 0 0 (l.drop s.at_)).2) = (z, k, c)) (h3 : c = 0 ∨ c = 101 ∨ c = 103) :
    Calls Tryz.prog 244 #[.pointer (some ⟨g, 0, none⟩), .func (.func 245) #[] #[], .int .i64 lo, .int .i64 hi] w fun e w' =>
      if c ≠ 0 then e = .returned (.tuple #[.int .i64 0, .int .i64 0]) ∧ Rdr w' p g l (s.fail c) ∧ But g w w'
      else if z < lo ∨ hi < z then e = .returned (.tuple #[.int .i64 0, .int .i64 0]) ∧ Rdr w' p g l (s.fail 105) ∧ But g w w'
      else e = .returned (.tuple #[.int .i64 z, .int .i64 k]) ∧ Rdr w' p g l s ∧ But g w w' := by
  obtain ⟨A, cap, E, h0, h1, h2, ha, hne, he⟩ := h.ex
  obtain rfl := he.good hc
  have hle := h.ok.le
  have HR := hide h
  have HS := hide hs
  have HG := hide (fun W hW hS => getInt_at (cutA A cap s.at_) (cap - s.at_) (l.length - s.at_) (l.drop s.at_) W p z k c (by rw [List.length_drop]) hg (by omega) ((ha.below (w' := W) hW (Nat.le_refl _)).cut s.at_ hle) hS)
  have k1 := fun W => run_cut_l W A l.length cap s.at_ hle
  have hcap := ha.le
  clear ha hne he hs h hc hg
  go_enter Tryz.func244, Tryz.ntmps244
  go_wp2_with fail
  go_quiet (first | (go_at_call 245; exact Calls.quiet_of (HG.out _ (below_drewN (Below.refl _ _) _) (HS.out.below (below_drewN (Below.refl _ _) _)))))
  have HRQ := hide (HR.out.below (below_drewN (Below.refl w.heap.size w) nq))
  have HSQ := hide (HS.out.below (below_drewN (Below.refl w.heap.size w) nq))
  have HBQ := hide (But.drewN g w nq)
  clear k1
  by_cases hc0 : c = 0
  · subst hc0
    rw [show errOf p 0 = .nilIface from rfl]
    have c4 : w.cell? ⟨3, 0, none⟩ = some (.iface 297 (.pointer (some (p 4)))) := HS.out.cell 4 (by omega)
    have k2 := neq_nil 297 (.pointer (some (p 4)))
    have HF := hide (fail_code (w.drewN nq) p g l s 105 (by omega) HRQ.out HSQ.out)
    rw [show 105 - 101 = 4 from rfl] at HF
    unfold errV at HF
    clear HG
    by_cases hm : z < lo
    · have hm' : decide (z < lo) = true := by simp [hm]
      have HM := hide (Or.inl hm : z < lo ∨ hi < z)
      go_wp2_with fail
      refine HF.out.mono ?_
      rintro e w1 ⟨rfl, hr1, hb1⟩
      go_wp2_with fail
      go_ret2
      exact ⟨rfl, hr1, HBQ.out.trans hb1⟩
    · have hm' : decide (z < lo) = false := by simp [hm]
      by_cases hn : hi < z
      · have hn' : decide (hi < z) = true := by simp [hn]
        have HM := hide (Or.inr hn : z < lo ∨ hi < z)
        go_wp2_with fail
        refine HF.out.mono ?_
        rintro e w1 ⟨rfl, hr1, hb1⟩
        go_wp2_with fail
        go_ret2
        exact ⟨rfl, hr1, HBQ.out.trans hb1⟩
      · have hn' : decide (hi < z) = false := by simp [hn]
        clear c4 k2
        go_wp2_with fail
        go_ret2
        exact ⟨rfl, HRQ.out, HBQ.out⟩
  · have hE : errOf p c = .iface 297 (.pointer (some (p (c - 101)))) := by unfold errOf; rw [if_neg hc0]; rfl
    rw [hE]
    have k2 := neq_nil 297 (.pointer (some (p (c - 101))))
    have k3 := eqn_nil 297 (.pointer (some (p (c - 101))))
    have HF := hide (fail_code (w.drewN nq) p g l s c (by omega) HRQ.out HSQ.out)
    unfold errV at HF
    have HC := hide hc0
    clear hc0 hE HG
    go_wp2_with fail
    refine HF.out.mono ?_
    rintro e w1 ⟨rfl, hr1, hb1⟩
    go_wp2_with fail
    go_ret2
    exact ⟨rfl, hr1, HBQ.out.trans hb1⟩

theorem nextI_any (w : World) (p : Nat → Addr) (g : Nat) (l : List UInt8) (s : Vi.Rs) (lo hi : Int) (h : Rdr w p g l s) (hs : SentsV w p) (hl : l.length ≤ 1000000) :
    Calls Tryz.prog 244 #[.pointer (some ⟨g, 0, none⟩), .func (.func 245) #[] #[], .int .i64 lo, .int .i64 hi] w fun e w' => e = .returned (.tuple #[.int .i64 (Vi.peekI l s lo hi).1, .int .i64 (Vi.peekI l s lo hi).2.1]) ∧ Rdr w' p g l (Vi.peekI l s lo hi).2.2 ∧ But g w w' := by
  by_cases hc : s.code ≠ 0
  · have e : Vi.peekI l s lo hi = (0, 0, s) := by unfold Vi.peekI; rw [if_pos hc]
    rw [e]
    exact (nextI_bad w p g l s lo hi h hc _).mono fun e w' ⟨h1, h2⟩ => ⟨h1, h2 ▸ h, h2 ▸ But.refl g w⟩
  · have hc0 : s.code = 0 := by omega
    obtain ⟨_, _, _, h4⟩ := Vi.getD_bd l s
    refine (nextI_good w p g l s lo hi h hs hl hc0 _ _ _ rfl h4).mono fun e w' hp => ?_
    unfold Vi.peekI
    rw [if_neg hc]
    simp only
    by_cases h5 : (Vi.get 0 0 (l.drop s.at_)).2.2 ≠ 0
    · rw [if_pos h5] at hp ⊢; exact hp
    · rw [if_neg h5] at hp ⊢
      by_cases h6 : Vi.unzz (Vi.get 0 0 (l.drop s.at_)).1 < lo ∨ hi < Vi.unzz (Vi.get 0 0 (l.drop s.at_)).1
      · rw [if_pos h6] at hp ⊢; exact hp
      · rw [if_neg h6] at hp ⊢; exact hp
end Go.Proofs.YtcmgppacipdnaaaGreatDoor

namespace Go.Proofs.YtcmgppacipdnaaaGreatDoor
open Go.RowKit

theorem Rdr.at_add {w : World} {p : Nat → Addr} {g : Nat} {l : List UInt8} {s : Vi.Rs} (h : Rdr w p g l s) (k : Nat) (hk : s.at_ + k ≤ l.length) (hz : s.code ≠ 0 → k = 0) : Rdr (w.setCell ⟨g, 1, none⟩ (.int .i64 ((s.at_ : Int) + (k : Int)))) p g l (s.on k) := h.at_set k hk hz
/-- What the walks load. -/
theorem Rdr.cells {w : World} {p : Nat → Addr} {g : Nat} {l : List UInt8} {s : Vi.Rs} (h : Rdr w p g l s) : w.cell? ⟨g, 1, none⟩ = some (.int .i64 s.at_) ∧ w.frozen? ⟨g, 1, none⟩ = false ∧ g < w.heap.size := by
  obtain ⟨A, cap, E, h0, h1, h2, ha, hne, he⟩ := h.ex
  exact ⟨h1, h.free 1, h.lt⟩

theorem peekI_bad {l : List UInt8} {s : Vi.Rs} {lo hi : Int} (h : (Vi.peekI l s lo hi).2.2.code ≠ 0) : (Vi.peekI l s lo hi).2.1 = 0 := by
  unfold Vi.peekI at h ⊢
  by_cases hc : s.code ≠ 0
  · rw [if_pos hc]
  · rw [if_neg hc] at h ⊢
    simp only at h ⊢
    by_cases hg : (Vi.get 0 0 (l.drop s.at_)).2.2 ≠ 0
    · rw [if_pos hg]
    · rw [if_neg hg] at h ⊢
      by_cases hm : Vi.unzz (Vi.get 0 0 (l.drop s.at_)).1 < lo ∨ hi < Vi.unzz (Vi.get 0 0 (l.drop s.at_)).1
      · rw [if_pos hm]
      · rw [if_neg hm] at h; exact absurd h hc

set_option maxRecDepth 100000 in
set_option maxHeartbeats 400000 in
theorem int_any (w : World) (p : Nat → Addr) (g : Nat) (l : List UInt8) (s : Vi.Rs) (lo hi : Int) (h : Rdr w p g l s) (hs : SentsV w p) (hl : l.length ≤ 1000000) :
    Calls Tryz.prog 215 #[.pointer (some ⟨g, 0, none⟩), .int .i64 lo, .int .i64 hi] w fun e w' => e = .returned (.int .i64 (Vi.int l s lo hi).1) ∧ Rdr w' p g l (Vi.int l s lo hi).2 ∧ But g w w' := by
  have HN := hide (nextI_any w p g l s lo hi h hs hl)
  obtain ⟨-, o2, o3⟩ := Vi.peekI_ok h.ok lo hi
  have HB := hide (peekI_bad (l := l) (s := s) (lo := lo) (hi := hi))
  have HE : Hid (Vi.int l s lo hi = ((Vi.peekI l s lo hi).1, (Vi.peekI l s lo hi).2.2.on (Vi.peekI l s lo hi).2.1)) := hide rfl
  rw [← o2] at o3
  clear h hs o2
  generalize Vi.peekI l s lo hi = q at *
  go_enter Tryz.func215, Tryz.ntmps215
  go_wp2_with fail
  refine HN.out.mono ?_
  rintro e w1 ⟨rfl, hr1, hb1⟩
  obtain ⟨c1, f1, t1⟩ := hr1.cells
  have HS := hide (hr1.at_add q.2.1 o3 (fun h => HB.out h))
  have HBB := hide (hb1.trans (But.setCell g 1 w1 (.int .i64 ((q.2.2.at_ : Int) + (q.2.1 : Int)))))
  clear hr1 hb1 HN
  go_wp2_with fail
  go_ret
  rw [HE.out]
  exact ⟨rfl, HS.out, HBB.out⟩

theorem rleft_any (w : World) (p : Nat → Addr) (g : Nat) (l : List UInt8) (s : Vi.Rs) (h : Rdr w p g l s) (hl : l.length ≤ 1000000) :
    Calls Tryz.prog 213 #[.pointer (some ⟨g, 0, none⟩)] w fun e w' => e = .returned (.int .i64 ((l.length - s.at_ : Nat) : Int)) ∧ ∃ n, w' = w.drewN n := by
  obtain ⟨A, cap, E, h0, h1, h2, ha, hne, he⟩ := h.ex
  have hle := h.ok.le
  have HE : Hid (((l.length - s.at_ : Nat) : Int) = (l.length : Int) - s.at_) := by show _ = _; omega
  clear h ha hne he h2
  go_enter Tryz.func213, Tryz.ntmps213
  go_wp2_with fail
  go_quiet (fail)
  go_wp2_with fail
  go_ret
  exact ⟨by rw [HE.out]; rfl, _, rfl⟩
theorem rerr_any (w : World) (p : Nat → Addr) (g : Nat) (l : List UInt8) (s : Vi.Rs) (h : Rdr w p g l s) :
    Calls Tryz.prog 216 #[.pointer (some ⟨g, 0, none⟩)] w fun e w' => (∃ E, e = .returned E ∧ ErrIs w p g E s) ∧ w = w' := by
  obtain ⟨A, cap, E, h0, h1, h2, ha, hne, he⟩ := h.ex
  have hlt := h.lt
  have HE := hide he
  clear h ha hne he h0 h1
  go_enter Tryz.func216, Tryz.ntmps216
  go_wp2_with fail
  go_ret
  exact ⟨⟨E, rfl, HE.out⟩, rfl⟩
end Go.Proofs.YtcmgppacipdnaaaGreatDoor

namespace Go.Proofs.YtcmgppacipdnaaaGreatDoor
open Go.RowKit

theorem Own.empty (w : World) (base : Nat) (hb : base ≤ w.heap.size) : Own (w.alloc (.cells #[] 5)) base (.slice (some ⟨w.heap.size, 0, none⟩) 0 0) [] := by
  refine ⟨by simp [cells], .inr ⟨w.heap.size, 0, #[], rfl, hb, heap_alloc_new _ _, by simp, by simp [maxLen], by simp, by simp [cells]⟩⟩

set_option maxRecDepth 100000 in
theorem clone_any (A : Option Addr) (cap n : Nat) (l : List UInt8) (w : World) (hn : l.length = n) (hl : n ≤ 1000000) (ha : Arg w A cap l) :
    Calls Tryz.prog 187 #[.slice A n cap] w fun e w' => ∃ A' c', e = .returned (.slice A' n c') ∧ Arg w' A' c' l ∧ (∀ b off, A' = some ⟨b, off, none⟩ → w.heap.size ≤ b ∧ b < w'.heap.size) ∧ Below w.heap.size w w' := by
  have ks := fun W => Lib.run_eql_slice_nil (P := Tryz.prog) W 67 5 A n cap 0 0 Tryz.underlying67
  cases A with
  | none =>
    have h0 : l = [] := by
      have := ha.nil rfl
      have := ha.le
      exact List.eq_nil_of_length_eq_zero (by omega)
    subst h0
    obtain rfl : n = 0 := hn.symm
    have hc := ha.nil rfl
    subst hc
    have HA := hide ha
    clear ha hn
    go_enter Tryz.func187, Tryz.ntmps187
    go_wp2_with fail
    go_ret
    exact ⟨none, 0, rfl, HA.out, (fun b off h => by cases h), Below.refl _ _⟩
  | some a =>
    have HA := hide ha
    have HN := hide hn
    have HO := hide (Own.empty w w.heap.size (Nat.le_refl _))
    clear ha hn
    go_enter Tryz.func187, Tryz.ntmps187
    go_wp2_with (at_builtin; refine wpList_app (w := w.alloc _) rfl (.tmp 5) (.tmp 6) rfl w.heap.size _ [] l rfl HO.out (some a) n cap rfl HN.out (HA.out.reads.alloc _) (by simp; omega) (by simp) ?_; intro v w3 hown3 hg3 hv3)
    have hb : Below w.heap.size w w3 := (balloc (Below.refl _ _) _).grown hg3 (by simp) (fun g hg => (HO.out.lt g hg).1)
    rw [List.nil_append] at hown3
    obtain ⟨A', c', rfl, ha'⟩ := hown3.arg
    rw [HN.out]
    go_ret
    refine ⟨A', c', rfl, ha', fun b off h => ?_, hb⟩
    subst h
    exact hown3.lt b rfl

/-- A reader at its beginning. -/
def start : Vi.Rs := ⟨0, 0, none⟩
set_option maxRecDepth 100000 in
theorem newReader_any (A : Option Addr) (cap n : Nat) (l : List UInt8) (w : World) (p : Nat → Addr) (hn : l.length = n) (hl : n ≤ 1000000) (ha : Arg w A cap l) :
    Calls Tryz.prog 188 #[.slice A n cap] w fun e w' => ∃ g, e = .returned (.pointer (some ⟨g, 0, none⟩)) ∧ w.heap.size ≤ g ∧ Rdr w' p g l start ∧ Below w.heap.size w w' := by
  have HC := hide (clone_any A cap n l w hn hl ha)
  have HN := hide hn
  clear ha hn
  go_enter Tryz.func188, Tryz.ntmps188
  go_wp2_with fail
  refine HC.out.mono ?_
  rintro e w1 ⟨A', c', rfl, ha', hlo, hb⟩
  have HA := hide ha'
  have HL := hide hlo
  have HB := hide hb
  clear ha' hlo hb HC
  go_wp2_with fail
  go_ret
  have hb1 : Below w1.heap.size w1 (w1.alloc (.cells #[.slice A' n c', .int .i64 0, .nilIface] 260)) := balloc (Below.refl _ _) _
  refine ⟨w1.heap.size, rfl, HB.out.size, ⟨by simp, fun k => by simp [go_sem], ⟨Nat.zero_le _, .inl ⟨rfl, rfl⟩⟩, A', c', .nilIface, ?_, ?_, ?_, HA.out.below hb1 (Nat.le_refl _), fun b off h => ?_, .inl ⟨rfl, rfl, rfl⟩⟩, HB.out.trans (hb1.mono HB.out.size)⟩
  · rw [World.cell?_alloc_mark, HN.out]; rfl
  · rw [World.cell?_alloc_mark]; rfl
  · rw [World.cell?_alloc_mark]; rfl
  · have := (HL.out b off h).2; omega

theorem peek_good {l : List UInt8} {s : Vi.Rs} {most : Nat} (h : (Vi.peek l s most).2.2.code = 0) : (Vi.peek l s most).2.2 = s := by
  unfold Vi.peek at h ⊢
  by_cases hc : s.code ≠ 0
  · rw [if_pos hc]
  · rw [if_neg hc] at h ⊢
    simp only at h ⊢
    by_cases hg : (Vi.get 0 0 (l.drop s.at_)).2.2 ≠ 0
    · rw [if_pos hg] at h
      exfalso
      unfold Vi.Rs.fail at h
      split at h
      · simp at h
      · exact hg h
    · rw [if_neg hg] at h ⊢
      by_cases hm : most < (Vi.get 0 0 (l.drop s.at_)).1
      · rw [if_pos hm] at h; exact absurd h (by simp [Vi.Rs.fail])
      · rw [if_neg hm]
/-- A slice of its own that reads as these bytes. -/
def Own2 (lo g : Nat) (l : List UInt8) (v : Value) (w : World) : Prop := ∃ A c, v = .slice A l.length c ∧ Arg w A c l ∧ ∀ b off, A = some ⟨b, off, none⟩ → lo ≤ b ∧ b ≠ g
def Known.bytes (lo g : Nat) (l : List UInt8) : Known := ⟨fun v w => g < w.heap.size ∧ Own2 lo g l v w, fun _ _ _ ⟨h0, A, c, h1, h2, h3⟩ hb => ⟨Nat.lt_of_lt_of_le h0 hb.size, A, c, h1, h2.below hb (Nat.le_refl _), h3⟩⟩

set_option maxRecDepth 100000 in
set_option maxHeartbeats 1000000 in
theorem rbytes_any (w : World) (p : Nat → Addr) (g : Nat) (l : List UInt8) (s : Vi.Rs) (most : Int) (h1 : -9223372036854775808 ≤ most) (h2 : most ≤ 9223372036854775807) (h : Rdr w p g l s) (hs : SentsV w p) (hsb : ∀ W, But g w W → SentsV W p) (hl : l.length ≤ 1000000) :
    Calls Tryz.prog 217 #[.pointer (some ⟨g, 0, none⟩), .int .i64 most] w fun e w' => ∃ v, e = .returned v ∧ Own2 w.heap.size g (Vi.text l s most.toNat).1 v w' ∧ Rdr w' p g l (Vi.text l s most.toNat).2 ∧ But g w w' := by
  have HN := hide (next_any w p g l s most.toNat h hs hl)
  obtain ⟨o1, o2, o3, o4⟩ := Vi.peek_ok h.ok most.toNat
  have HB := hide (Vi.peek_bad (l := l) (s := s) (most := most.toNat))
  have HGD := hide (peek_good (l := l) (s := s) (most := most.toNat))
  have HE : Hid (Vi.text l s most.toNat = let q := Vi.peek l s most.toNat; if q.2.2.code ≠ 0 then ([], q.2.2) else if l.length < s.at_ + q.2.1 + q.1 then ([], s.fail 101) else ((l.drop (s.at_ + q.2.1)).take q.1, s.on (q.2.1 + q.1))) := hide rfl
  have HM : Hid ((0 ≤ most → (most.toNat : Int) = most) ∧ (most ≤ 0 → (most.toNat : Int) = 0)) := by show _ ∧ _; omega
  have HOK := hide h.ok
  have HSB := hide hsb
  clear h hs hsb
  generalize Vi.text l s most.toNat = T at *
  generalize hmt : most.toNat = mt at *
  generalize Vi.peek l s mt = q at *
  obtain ⟨n, k, s1⟩ := q
  simp only at *
  go_enter Tryz.func217, Tryz.ntmps217
  go_upto_region 1 with fail
  go_cut [5, 6] (fun n' k' wx => n' = .int .u64 n ∧ k' = .int .i64 k ∧ Rdr wx p g l s1 ∧ But g w wx)
  case first =>
    clear hmt
    by_cases h0 : 0 < most
    · have e := HM.out.1 (by omega)
      have HN' := HN.out
      rw [e] at HN'
      have HNN := hide HN'
      clear e HN' HN
      go_wp2_with fail
      refine HNN.out.mono ?_
      rintro e w1 ⟨rfl, hr1, hb1⟩
      go_wp2_with fail
      go_meet
      exact ⟨rfl, rfl, hr1, hb1⟩
    · have e := HM.out.2 (by omega)
      by_cases h9 : most < 0
      · skip
        have HN' := HN.out
        rw [e] at HN'
        have HNN := hide HN'
        clear e HN' HN
        go_wp2_with fail
        refine HNN.out.mono ?_
        rintro e w1 ⟨rfl, hr1, hb1⟩
        go_wp2_with fail
        go_meet
        exact ⟨rfl, rfl, hr1, hb1⟩

      · obtain rfl : most = 0 := by omega
        have HN' := HN.out
        rw [e] at HN'
        have HNN := hide HN'
        clear e HN' HN
        go_wp2_with fail
        refine HNN.out.mono ?_
        rintro e w1 ⟨rfl, hr1, hb1⟩
        go_wp2_with fail
        go_meet
        exact ⟨rfl, rfl, hr1, hb1⟩
  case rest =>
    obtain ⟨rfl, rfl, hr1, hb1⟩ := hcut
    clear HN HM hmt
    have HR1 := hide hr1
    have HB1 := hide hb1
    by_cases hc : s1.code ≠ 0
    · obtain ⟨A, cap, E, c0, c1, c2, ha, hne, he⟩ := hr1.ex
      obtain ⟨u, x, rfl⟩ := he.bad hc
      have hlt := hr1.lt
      have k1 := neq_nil u x
      have HT : Hid (T = ([], s1)) := by show _ = _; rw [HE.out]; rw [if_pos hc]
      clear hr1 hb1 ha hne he hc c0 c1
      go_wp2_with fail
      go_ret
      refine ⟨_, rfl, ?_, ?_, HB1.out⟩
      · rw [HT.out]; exact ⟨none, 0, rfl, ⟨by simp, by omega, fun _ => rfl, .inl rfl⟩, fun b off h => by cases h⟩
      · rw [HT.out]; exact HR1.out
    · have hc0 : s1.code = 0 := by omega
      obtain rfl : s1 = s := HGD.out hc0
      have HLEFT := hide (rleft_any wc p g l _ hr1 hl)
      obtain ⟨A, cap, E, c0, c1, c2, ha, hne, he⟩ := hr1.ex
      obtain rfl := he.good hc0
      have hlt := hr1.lt
      have hfr := hr1.free 1
      have hat := o1.le
      by_cases hn : l.length < s1.at_ + k + n
      · have hn' : ((l.length - s1.at_ : Nat) : Int) - (k : Int) < (n : Int) := by omega
        have HT : Hid (T = ([], s1.fail 101)) := by show _ = _; rw [HE.out, if_neg hc, if_pos hn]
        have HSQ := hide (fun m => (HSB.out _ HB1.out).below (below_drewN (Below.refl wc.heap.size wc) m))
        have HRQ := hide (fun m => HR1.out.below (below_drewN (Below.refl wc.heap.size wc) m))
        have c4 : wc.cell? ⟨8, 0, none⟩ = some (.iface 297 (.pointer (some (p 0)))) := (HSB.out _ HB1.out).cell 0 (by omega)
        have HF := hide (fun m => fail_end (wc.drewN m) p g l s1 (HRQ.out m) (HSQ.out m))
        unfold errV at HF
        clear hr1 hb1 ha hne he hc hc0 hn o1 o2 c0 c1 hfr HE HOK
        go_wp2_with fail
        refine HLEFT.out.mono ?_
        rintro e w2 ⟨rfl, m, rfl⟩
        go_wp2_with fail
        refine (HF.out m).mono ?_
        rintro e w3 ⟨rfl, hr3, hb3⟩
        go_wp2_with fail
        go_ret
        refine ⟨_, rfl, ?_, ?_, HB1.out.trans ((But.drewN g wc m).trans hb3)⟩
        · rw [HT.out]; exact ⟨none, 0, rfl, ⟨by simp, by omega, fun _ => rfl, .inl rfl⟩, fun b off h => by cases h⟩
        · rw [HT.out]; exact hr3
      · have hn' : ¬ ((l.length - s1.at_ : Nat) : Int) - (k : Int) < (n : Int) := by omega
        have hnl : n ≤ 1000000 := by omega
        have HT : Hid (T = ((l.drop (s1.at_ + k)).take n, s1.on (k + n))) := by show _ = _; rw [HE.out, if_neg hc, if_neg hn]
        have HCC := hide (fun m => (HR1.out.below (below_drewN (Below.refl wc.heap.size wc) m)).at_add (k + n) (by omega) (fun h => absurd hc0 h))
        have e1 : (s1.at_ : Int) + ((k + n : Nat) : Int) = (s1.at_ : Int) + (k : Int) + (n : Int) := by omega
        rw [e1] at HCC
        clear hr1 hb1 ha hne he hc hc0 o1 o2 HE HOK e1
        go_upto_region 7 with fail
        refine HLEFT.out.mono ?_
        rintro e w2 ⟨rfl, m, rfl⟩
        go_upto_region 9 with fail
        have hrd := HCC.out m
        have hbt := HB1.out.trans ((But.drewN g wc m).trans (But.setCell g 1 _ (.int .i64 ((s1.at_ : Int) + (k : Int) + (n : Int)))))
        have hw0 : w.heap.size ≤ ((wc.drewN m).setCell ⟨g, 1, none⟩ (.int .i64 ((s1.at_ : Int) + (k : Int) + (n : Int)))).heap.size := hbt.size
        have HRD := hide hrd
        have HBT := hide hbt
        generalize (wc.drewN m).setCell ⟨g, 1, none⟩ (.int .i64 ((s1.at_ : Int) + (k : Int) + (n : Int))) = W at *
        obtain ⟨A2, cap2, E2, d0, d1, d2, da, dne, de⟩ := hrd.ex
        have hgl := hrd.lt
        have HDA := hide da
        have hcap := da.le
        have hd1' : W.cell? ⟨g, 1, none⟩ = some (.int .i64 ((s1.at_ + (k + n) : Nat) : Int)) := d1
        obtain ⟨lo, hlo⟩ : ∃ lo, lo = s1.at_ + k := ⟨_, rfl⟩
        obtain ⟨hi, hhi⟩ : ∃ hi, hi = s1.at_ + (k + n) := ⟨_, rfl⟩
        have HLO : Hid (((s1.at_ : Int) + (k : Int)) = (lo : Int)) := by show _ = _; omega
        have HLON := hide hlo
        rw [← hhi] at hd1'
        rw [← hlo] at HT
        have b1 : lo ≤ l.length := by omega
        have b2 : lo ≤ hi := by omega
        have b3 : hi ≤ l.length := by omega
        have b4 : hi - lo = n := by omega
        have hk1 := fun W => run_cut_lh W A2 l.length cap2 lo hi b2 (by omega)
        rw [b4] at hk1
        have hlen : ((l.drop lo).take n).length = n := by rw [List.length_take, List.length_drop]; omega
        have HLEN := hide hlen
        have HCL := hide (fun W' (hb : Below W.heap.size W W') => clone_any (cutA A2 cap2 lo) (cap2 - lo) n ((l.drop lo).take n) W' hlen (by omega) (((da.below hb (Nat.le_refl _)).cut lo b1).first n))
        clear hrd hbt HCC HLEFT HB1 HR1 d2 da dne de hlen hcap d1 hlo hhi b4 c2 hlt
        refine wp_region_made [44, 45, 46, 47, 48, 49, 50, 51, 52, 53, 54] (fun d => match d with
          | 44 => .is (.pointer (some ⟨g, 0, none⟩)) | 45 => .is (.pointer (some ⟨g, 0, none⟩)) | 46 => .is (.pointer (some ⟨g, 0, none⟩)) | 47 => .is (.slice A2 l.length cap2) | 48 => .is (.int .i64 lo)
          | 49 => .is (.pointer (some ⟨g, 0, none⟩)) | 50 => .is (.pointer (some ⟨g, 0, none⟩)) | 51 => .is (.pointer (some ⟨g, 1, none⟩)) | 52 => .is (.int .i64 hi)
          | 53 => .is (.slice (cutA A2 cap2 lo) n (cap2 - lo)) | 54 => .bytes W.heap.size g ((l.drop lo).take n)
          | _ => .any) _ (by kernel_rfl) (by kernel_rfl) rfl (by kernel_rfl) ?_ ?_
        · simp only [List.size_toArray, List.length_cons, List.length_nil, List.take_succ_cons, List.take_zero, StepsOk]
          refine ⟨?_, ?_, ?_, ?_, ?_, ?_, ?_, ?_, ?_, ?_, ?_, trivial⟩
          all_goals
            intro ev w1 hb hev hd
            have ev0 : ev (.tmp 0) = .pointer (some ⟨g, 0, none⟩) := hev _ (by simp)
            have ev7 : ev (.tmp 7) = .int .i64 lo := (hev _ (by simp)).trans (congrArg (Value.int .i64) HLO.out)
            have evf : ∀ f, ev (.func f) = .func (.func f) #[] #[] := fun f => hev _ (by simp)
            have hd0 := (hb.cell (p := ⟨g, 0, none⟩) hgl).trans d0
            have hd1 := (hb.cell (p := ⟨g, 1, none⟩) hgl).trans hd1'
            have HB := hide hb
            clear hev hb
            simp [DepsOk, Known.is] at hd
            try simp [OpRuns, execOp, go_sem, Known.is, Below.refl, *]
          refine (HCL.out w1 HB.out).mono ?_
          rintro e w2 ⟨A', c', rfl, ha', hlo', hb'⟩
          refine ⟨_, rfl, hb', ?_, A', c', by rw [HLEN.out], ha', fun b off h => ?_⟩
          · have := HB.out.size; have := hb'.size; omega
          · have := (hlo' b off h).1; have := HB.out.size; omega
        · intro f w1 hb hf
          have hk54 : g < w1.heap.size ∧ Own2 W.heap.size g ((l.drop lo).take n) (f 54) w1 := hf 54 (by simp)
          obtain ⟨-, A', c', e54, ha', hne'⟩ := hk54
          rw [HLEN.out] at e54
          have HA' := hide ha'
          have HNE := hide hne'
          have HBB := hide hb
          clear hf hb ha' hne'
          simp only [puts]
          go_wp2_with fail
          go_ret
          refine ⟨_, rfl, ?_, ?_, HBT.out.trans (But.of_below HBB.out)⟩
          · rw [HT.out]; exact ⟨A', c', by rw [HLEN.out]; rfl, HA'.out, fun b off h => ⟨Nat.le_trans hw0 (HNE.out b off h).1, (HNE.out b off h).2⟩⟩
          · rw [HT.out]; exact HRD.out.below HBB.out
end Go.Proofs.YtcmgppacipdnaaaGreatDoor
