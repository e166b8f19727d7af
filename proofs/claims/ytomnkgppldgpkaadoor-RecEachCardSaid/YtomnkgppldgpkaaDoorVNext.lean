/-
  The walks through a reader's next number.
  The walks through a reader's next number that may be below nothing.
-/
import Derived.Test.YtomnkgppldgpkaaDoorVRdr
import Derived.Test.YtomnkgppldgpkaaDoorVGet
import Derived.BigQuiet
import Derived.Deep.QuietTactic
namespace Go.Proofs.YtomnkgppldgpkaaDoor
open Go.RowKit

theorem ErrIs.bad {w : World} {p : Nat → Addr} {g : Nat} {E : Value} {s : Vi.Rs} (h : ErrIs w p g E s) (hc : s.code ≠ 0) : ∃ u x, E = .iface u x := by
  rcases h with ⟨h, _⟩ | ⟨_, _, h⟩ | ⟨a, q, _, _, h, _⟩
  · exact absurd h hc
  · exact ⟨_, _, h⟩
  · exact ⟨_, _, h⟩
theorem ErrIs.good {w : World} {p : Nat → Addr} {g : Nat} {E : Value} {s : Vi.Rs} (h : ErrIs w p g E s) (hc : s.code = 0) : E = .nilIface := by
  rcases h with ⟨_, _, h⟩ | ⟨h, _⟩ | ⟨a, q, h, _⟩
  · exact h
  · omega
  · omega
theorem ret2 {a b a' b' : Value} (h1 : a = a') (h2 : b = b') : Ending.returned (.tuple #[a, b]) = Ending.returned (.tuple #[a', b']) := by rw [h1, h2]
theorem fail_code (w : World) (p : Nat → Addr) (g : Nat) (l : List UInt8) (s : Vi.Rs) (c : Nat) (hc : c = 101 ∨ c = 103 ∨ c = 105) (h : Rdr w p g l s) (hs : Sents5 w p) :
    Calls Tryd.prog 39 #[.pointer (some ⟨g, 0, none⟩), errV (p (c - 101))] w fun e w' => e = .returned (.tuple #[]) ∧ Rdr w' p g l (s.fail c) ∧ But g w w' := by
  rcases hc with rfl | rfl | rfl
  · exact fail_end w p g l s h hs
  · exact fail_at w p g l s 2 (.inl rfl) h hs
  · exact fail_at w p g l s 4 (.inr rfl) h hs

set_option maxRecDepth 100000 in
set_option maxHeartbeats 1000000 in
theorem next_bad (w : World) (p : Nat → Addr) (g : Nat) (l : List UInt8) (s : Vi.Rs) (most : Nat) (h : Rdr w p g l s) (hc : s.code ≠ 0) (F : Value) :
    Calls Tryd.prog 63 #[.pointer (some ⟨g, 0, none⟩), F, .int .u64 0, .int .u64 most] w fun e w' => e = .returned (.tuple #[.int .u64 0, .int .i64 0]) ∧ w = w' := by
  obtain ⟨A, cap, E, h0, h1, h2, ha, hne, he⟩ := h.ex
  obtain ⟨u, x, rfl⟩ := he.bad hc
  have k1 := neq_nil u x
  clear h hc ha hne he
  go_enter Tryd.func63, Tryd.ntmps63
  go_wp2_with fail
  go_ret2
  exact ⟨rfl, rfl⟩

set_option maxRecDepth 100000 in
set_option maxHeartbeats 1000000 in
theorem next_good (w : World) (p : Nat → Addr) (g : Nat) (l : List UInt8) (s : Vi.Rs) (most : Nat) (h : Rdr w p g l s) (hs : Sents5 w p) (hl : l.length ≤ 1000000) (hc : s.code = 0) (a k c : Nat) (hg : Vi.get 0 0 (l.drop s.at_) = (a, k, c)) (h3 : c = 0 ∨ c = 101 ∨ c = 103) :
    Calls Tryd.prog 63 #[.pointer (some ⟨g, 0, none⟩), .func (.func 64) #[] #[], .int .u64 0, .int .u64 most] w fun e w' =>
      if c ≠ 0 then e = .returned (.tuple #[.int .u64 0, .int .i64 0]) ∧ Rdr w' p g l (s.fail c) ∧ But g w w'
      else if most < a then e = .returned (.tuple #[.int .u64 0, .int .i64 0]) ∧ Rdr w' p g l (s.fail 105) ∧ But g w w'
      else e = .returned (.tuple #[.int .u64 a, .int .i64 k]) ∧ Rdr w' p g l s ∧ But g w w' := by
  obtain ⟨A, cap, E, h0, h1, h2, ha, hne, he⟩ := h.ex
  obtain rfl := he.good hc
  have hle := h.ok.le
  have HR := hide h
  have HS := hide hs
  have HG := hide (fun W hW hS => get_at (cutA A cap s.at_) (cap - s.at_) (l.length - s.at_) (l.drop s.at_) W p a k c (by rw [List.length_drop]) hg (by omega) ((ha.below (w' := W) hW (Nat.le_refl _)).cut s.at_ hle) hS)
  have k1 := fun W => run_cut_l W A l.length cap s.at_ hle
  have hcap := ha.le
  clear ha hne he hs h hc hg
  go_enter Tryd.func63, Tryd.ntmps63
  go_wp2_with fail
  go_quiet (first | (go_at_call 64; exact Calls.quiet_of (HG.out _ (below_drewN (Below.refl _ _) _) (HS.out.below (below_drewN (Below.refl _ _) _)))))
  have HRQ := hide (HR.out.below (below_drewN (Below.refl w.heap.size w) nq))
  have HSQ := hide (HS.out.below (below_drewN (Below.refl w.heap.size w) nq))
  have HBQ := hide (But.drewN g w nq)
  clear k1
  by_cases hc0 : c = 0
  · subst hc0
    rw [show errOf p 0 = .nilIface from rfl]
    by_cases hm : most < a
    · have hm' : (most : Int) < (a : Int) := by omega
      have HM := hide hm
      have c4 : w.cell? ⟨4, 0, none⟩ = some (.iface 130 (.pointer (some (p 4)))) := HS.out.cell 4 (by omega)
      have k2 := neq_nil 130 (.pointer (some (p 4)))
      have HF := hide (fail_code (w.drewN nq) p g l s 105 (by omega) HRQ.out HSQ.out)
      rw [show 105 - 101 = 4 from rfl] at HF
      unfold errV at HF
      clear hm HG
      go_wp2_with fail
      refine HF.out.mono ?_
      rintro e w1 ⟨rfl, hr1, hb1⟩
      go_wp2_with fail
      go_ret2
      exact ⟨rfl, hr1, HBQ.out.trans hb1⟩
    · have HM := hide hm
      have hm' : ¬ (most : Int) < (a : Int) := by omega
      clear hm HG
      go_wp2_with fail
      go_ret2
      exact ⟨rfl, HRQ.out, HBQ.out⟩
  · have hE : errOf p c = .iface 130 (.pointer (some (p (c - 101)))) := by unfold errOf; rw [if_neg hc0]; rfl
    rw [hE]
    have k2 := neq_nil 130 (.pointer (some (p (c - 101))))
    have k3 := eqn_nil 130 (.pointer (some (p (c - 101))))
    have HF := hide (fail_code (w.drewN nq) p g l s c (by omega) HRQ.out HSQ.out)
    unfold errV at HF
    have HC := hide hc0
    clear hc0 hE HG
    go_wp2_with fail
    refine HF.out.mono ?_
    rintro e w1 ⟨rfl, hr1, hb1⟩
    go_wp2_with fail
    go_ret2
    exact ⟨rfl, hr1, HBQ.out.trans hb1⟩

theorem next_any (w : World) (p : Nat → Addr) (g : Nat) (l : List UInt8) (s : Vi.Rs) (most : Nat) (h : Rdr w p g l s) (hs : Sents5 w p) (hl : l.length ≤ 1000000) :
    Calls Tryd.prog 63 #[.pointer (some ⟨g, 0, none⟩), .func (.func 64) #[] #[], .int .u64 0, .int .u64 most] w fun e w' => e = .returned (.tuple #[.int .u64 (Vi.peek l s most).1, .int .i64 (Vi.peek l s most).2.1]) ∧ Rdr w' p g l (Vi.peek l s most).2.2 ∧ But g w w' := by
  by_cases hc : s.code ≠ 0
  · have e : Vi.peek l s most = (0, 0, s) := by unfold Vi.peek; rw [if_pos hc]
    rw [e]
    exact (next_bad w p g l s most h hc _).mono fun e w' ⟨h1, h2⟩ => ⟨h1, h2 ▸ h, h2 ▸ But.refl g w⟩
  · have hc0 : s.code = 0 := by omega
    obtain ⟨_, _, _, h4⟩ := Vi.getD_bd l s
    refine (next_good w p g l s most h hs hl hc0 _ _ _ rfl h4).mono fun e w' hp => ?_
    unfold Vi.peek
    rw [if_neg hc]
    simp only
    by_cases h5 : (Vi.get 0 0 (l.drop s.at_)).2.2 ≠ 0
    · rw [if_pos h5] at hp ⊢; exact hp
    · rw [if_neg h5] at hp ⊢
      by_cases h6 : most < (Vi.get 0 0 (l.drop s.at_)).1
      · rw [if_pos h6] at hp ⊢; exact hp
      · rw [if_neg h6] at hp ⊢; exact hp
end Go.Proofs.YtomnkgppldgpkaaDoor

namespace Go.Proofs.YtomnkgppldgpkaaDoor
open Go.RowKit

set_option maxRecDepth 100000 in
set_option maxHeartbeats 1000000 in
theorem nextI_bad (w : World) (p : Nat → Addr) (g : Nat) (l : List UInt8) (s : Vi.Rs) (lo hi : Int) (h : Rdr w p g l s) (hc : s.code ≠ 0) (F : Value) :
    Calls Tryd.prog 61 #[.pointer (some ⟨g, 0, none⟩), F, .int .i64 lo, .int .i64 hi] w fun e w' => e = .returned (.tuple #[.int .i64 0, .int .i64 0]) ∧ w = w' := by
  obtain ⟨A, cap, E, h0, h1, h2, ha, hne, he⟩ := h.ex
  obtain ⟨u, x, rfl⟩ := he.bad hc
  have k1 := neq_nil u x
  clear h hc ha hne he
  go_enter Tryd.func61, Tryd.ntmps61
  go_wp2_with fail
  go_ret2
  exact ⟨rfl, rfl⟩

set_option maxRecDepth 100000 in
set_option maxHeartbeats 1000000 in
theorem nextI_good (w : World) (p : Nat → Addr) (g : Nat) (l : List UInt8) (s : Vi.Rs) (lo hi : Int) (h : Rdr w p g l s) (hs : Sents5 w p) (hl : l.length ≤ 1000000) (hc : s.code = 0) (z : Int) (k c : Nat) (hg : (Vi.unzz (Vi.get 0 0 (l.drop s.at_)).1, (Vi.get 0 0 (l.drop s.at_)).2) = (z, k, c)) (h3 : c = 0 ∨ c = 101 ∨ c = 103) :
    Calls Tryd.prog 61 #[.pointer (some ⟨g, 0, none⟩), .func (.func 62) #[] #[], .int .i64 lo, .int .i64 hi] w fun e w' =>
      if c ≠ 0 then e = .returned (.tuple #[.int .i64 0, .int .i64 0]) ∧ Rdr w' p g l (s.fail c) ∧ But g w w'
      else if z < lo ∨ hi < z then e = .returned (.tuple #[.int .i64 0, .int .i64 0]) ∧ Rdr w' p g l (s.fail 105) ∧ But g w w'
      else e = .returned (.tuple #[.int .i64 z, .int .i64 k]) ∧ Rdr w' p g l s ∧ But g w w' := by
  obtain ⟨A, cap, E, h0, h1, h2, ha, hne, he⟩ := h.ex
  obtain rfl := he.good hc
  have hle := h.ok.le
  have HR := hide h
  have HS := hide hs
  have HG := hide (fun W hW hS => getInt_at (cutA A cap s.at_) (cap - s.at_) (l.length - s.at_) (l.drop s.at_) W p z k c (by rw [List.length_drop]) hg (by omega) ((ha.below (w' := W) hW (Nat.le_refl _)).cut s.at_ hle) hS)
  have k1 := fun W => run_cut_l W A l.length cap s.at_ hle
  have hcap := ha.le
  clear ha hne he hs h hc hg
  go_enter Tryd.func61, Tryd.ntmps61
  go_wp2_with fail
  go_quiet (first | (go_at_call 62; exact Calls.quiet_of (HG.out _ (below_drewN (Below.refl _ _) _) (HS.out.below (below_drewN (Below.refl _ _) _)))))
  have HRQ := hide (HR.out.below (below_drewN (Below.refl w.heap.size w) nq))
  have HSQ := hide (HS.out.below (below_drewN (Below.refl w.heap.size w) nq))
  have HBQ := hide (But.drewN g w nq)
  clear k1
  by_cases hc0 : c = 0
  · subst hc0
    rw [show errOf p 0 = .nilIface from rfl]
    have c4 : w.cell? ⟨4, 0, none⟩ = some (.iface 130 (.pointer (some (p 4)))) := HS.out.cell 4 (by omega)
    have k2 := neq_nil 130 (.pointer (some (p 4)))
    have HF := hide (fail_code (w.drewN nq) p g l s 105 (by omega) HRQ.out HSQ.out)
    rw [show 105 - 101 = 4 from rfl] at HF
    unfold errV at HF
    clear HG
    by_cases hm : z < lo
    · have hm' : decide (z < lo) = true := by simp [hm]
      have HM := hide (Or.inl hm : z < lo ∨ hi < z)
      go_wp2_with fail
      refine HF.out.mono ?_
      rintro e w1 ⟨rfl, hr1, hb1⟩
      go_wp2_with fail
      go_ret2
      exact ⟨rfl, hr1, HBQ.out.trans hb1⟩
    · have hm' : decide (z < lo) = false := by simp [hm]
      by_cases hn : hi < z
      · have hn' : decide (hi < z) = true := by simp [hn]
        have HM := hide (Or.inr hn : z < lo ∨ hi < z)
        go_wp2_with fail
        refine HF.out.mono ?_
        rintro e w1 ⟨rfl, hr1, hb1⟩
        go_wp2_with fail
        go_ret2
        exact ⟨rfl, hr1, HBQ.out.trans hb1⟩
      · have hn' : decide (hi < z) = false := by simp [hn]
        clear c4 k2
        go_wp2_with fail
        go_ret2
        exact ⟨rfl, HRQ.out, HBQ.out⟩
  · have hE : errOf p c = .iface 130 (.pointer (some (p (c - 101)))) := by unfold errOf; rw [if_neg hc0]; rfl
    rw [hE]
    have k2 := neq_nil 130 (.pointer (some (p (c - 101))))
    have k3 := eqn_nil 130 (.pointer (some (p (c - 101))))
    have HF := hide (fail_code (w.drewN nq) p g l s c (by omega) HRQ.out HSQ.out)
    unfold errV at HF
    have HC := hide hc0
    clear hc0 hE HG
    go_wp2_with fail
    refine HF.out.mono ?_
    rintro e w1 ⟨rfl, hr1, hb1⟩
    go_wp2_with fail
    go_ret2
    exact ⟨rfl, hr1, HBQ.out.trans hb1⟩

theorem nextI_any (w : World) (p : Nat → Addr) (g : Nat) (l : List UInt8) (s : Vi.Rs) (lo hi : Int) (h : Rdr w p g l s) (hs : Sents5 w p) (hl : l.length ≤ 1000000) :
    Calls Tryd.prog 61 #[.pointer (some ⟨g, 0, none⟩), .func (.func 62) #[] #[], .int .i64 lo, .int .i64 hi] w fun e w' => e = .returned (.tuple #[.int .i64 (Vi.peekI l s lo hi).1, .int .i64 (Vi.peekI l s lo hi).2.1]) ∧ Rdr w' p g l (Vi.peekI l s lo hi).2.2 ∧ But g w w' := by
  by_cases hc : s.code ≠ 0
  · have e : Vi.peekI l s lo hi = (0, 0, s) := by unfold Vi.peekI; rw [if_pos hc]
    rw [e]
    exact (nextI_bad w p g l s lo hi h hc _).mono fun e w' ⟨h1, h2⟩ => ⟨h1, h2 ▸ h, h2 ▸ But.refl g w⟩
  · have hc0 : s.code = 0 := by omega
    obtain ⟨_, _, _, h4⟩ := Vi.getD_bd l s
    refine (nextI_good w p g l s lo hi h hs hl hc0 _ _ _ rfl h4).mono fun e w' hp => ?_
    unfold Vi.peekI
    rw [if_neg hc]
    simp only
    by_cases h5 : (Vi.get 0 0 (l.drop s.at_)).2.2 ≠ 0
    · rw [if_pos h5] at hp ⊢; exact hp
    · rw [if_neg h5] at hp ⊢
      by_cases h6 : Vi.unzz (Vi.get 0 0 (l.drop s.at_)).1 < lo ∨ hi < Vi.unzz (Vi.get 0 0 (l.drop s.at_)).1
      · rw [if_pos h6] at hp ⊢; exact hp
      · rw [if_neg h6] at hp ⊢; exact hp
end Go.Proofs.YtomnkgppldgpkaaDoor
