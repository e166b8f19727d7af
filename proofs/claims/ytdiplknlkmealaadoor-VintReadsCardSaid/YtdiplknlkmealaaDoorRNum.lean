/-
  The walks through the reference's reader's Num and Int.
-/
import Derived.Test.YtdiplknlkmealaaDoorRRd
namespace Go.Proofs.YtdiplknlkmealaaDoor
open Go.RowKit

set_option maxRecDepth 100000 in
set_option maxHeartbeats 1000000 in
theorem rnum_good (w : World) (A : Option Addr) (cap g : Nat) (l : List UInt8) (s : Vi.Rs) (most : Nat) (h : RRd w A cap g l s) (hl : l.length ≤ 1000000) (hc : s.code = 0) (a k c : Nat) (hg : Vi.get 0 0 (l.drop s.at_) = (a, k, c)) (h3 : c = 0 ∨ c = 101 ∨ c = 103) (hk : k ≤ l.length - s.at_) :
    Calls Tryd.prog 39 #[.pointer (some ⟨g, 0, none⟩), .int .u64 most] w fun e w' =>
      if c ≠ 0 then e = .returned (.int .u64 0) ∧ RRd w' A cap g l (s.fail c) ∧ But g w w'
      else if most < a then e = .returned (.int .u64 0) ∧ RRd w' A cap g l (s.fail 105) ∧ But g w w'
      else e = .returned (.int .u64 a) ∧ RRd w' A cap g l (s.on k) ∧ But g w w' := by
  have HFI := hide (fine_any w A cap g l s true h (by simp [hc]))
  have HFA := hide (fun q c hc => rfail_any (w.drewN q) A cap g l s c hc (h.below (below_drewN (Below.refl w.heap.size w) q)))
  have hle := h.ok.le
  have HG := hide (fun W hW => refGet_at (cutA A cap s.at_) (cap - s.at_) (l.length - s.at_) (l.drop s.at_) W a k c (by rw [List.length_drop]) hg (by omega) (((h.arg.below (w' := W) hW (Nat.le_refl _)).cut s.at_ hle).reads))
  have HAT := hide (fun q => (h.below (below_drewN (Below.refl w.heap.size w) q)).at_set k (by omega) hc)
  have HBT := hide (fun q => (But.drewN g w q).trans (But.setCell g 1 (w.drewN q) (.int .i64 ((s.at_ : Int) + (k : Int)))))
  have HBQ := hide (fun q => But.drewN g w q)
  have k1 := fun W => run_cut_l W A l.length cap s.at_ hle
  have hcap := h.arg.le
  have c0 := h.c0
  have c1 := h.c1
  have f1 := h.free 1
  have hlt := h.lt
  clear h hg hc
  go_enter Tryd.func39, Tryd.ntmps39
  go_wp2_with fail
  refine HFI.out.mono ?_
  rintro e w0 ⟨rfl, rfl⟩
  go_wp2_with fail
  go_quiet (first | (go_at_call 33; exact Calls.quiet_of_same ((HG.out _ (below_drewN (Below.refl _ _) _)).mono fun _ _ ⟨h1, h2⟩ => ⟨h1, h2.symm⟩)))
  clear k1 HG
  by_cases hc0 : c = 0
  · subst hc0
    by_cases hm : most < a
    · have hm' : (most : Int) < (a : Int) := by omega
      have HM := hide hm
      have HF := hide (HFA.out nq 105 (by omega))
      clear hm
      go_wp2_with fail
      refine HF.out.mono ?_
      rintro e w1 ⟨rfl, hr1, hb1⟩
      go_wp2_with fail
      go_ret
      exact ⟨rfl, hr1, (HBQ.out nq).trans hb1⟩
    · have hm' : ¬ (most : Int) < (a : Int) := by omega
      have HM := hide hm
      clear hm
      go_wp2_with fail
      go_ret
      exact ⟨rfl, HAT.out nq, HBT.out nq⟩
  · have HC := hide hc0
    have hc1 : ((c : Int) == 0) = false := by simp; omega
    have HF := hide (HFA.out nq c (by omega))
    clear hc0
    go_wp2_with fail
    refine HF.out.mono ?_
    rintro e w1 ⟨rfl, hr1, hb1⟩
    go_wp2_with fail
    go_ret
    exact ⟨rfl, hr1, (HBQ.out nq).trans hb1⟩

set_option maxRecDepth 100000 in
set_option maxHeartbeats 1000000 in
theorem rint_good (w : World) (A : Option Addr) (cap g : Nat) (l : List UInt8) (s : Vi.Rs) (lo hi : Int) (h : RRd w A cap g l s) (hl : l.length ≤ 1000000) (hc : s.code = 0) (a : Int) (k c : Nat) (hg : (Vi.unzz (Vi.get 0 0 (l.drop s.at_)).1, (Vi.get 0 0 (l.drop s.at_)).2) = (a, k, c)) (h3 : c = 0 ∨ c = 101 ∨ c = 103) (hk : k ≤ l.length - s.at_) :
    Calls Tryd.prog 41 #[.pointer (some ⟨g, 0, none⟩), .int .i64 lo, .int .i64 hi] w fun e w' =>
      if c ≠ 0 then e = .returned (.int .i64 0) ∧ RRd w' A cap g l (s.fail c) ∧ But g w w'
      else if a < lo ∨ hi < a then e = .returned (.int .i64 0) ∧ RRd w' A cap g l (s.fail 105) ∧ But g w w'
      else e = .returned (.int .i64 a) ∧ RRd w' A cap g l (s.on k) ∧ But g w w' := by
  have HFI := hide (fine_any w A cap g l s true h (by simp [hc]))
  have HFA := hide (fun q c hc => rfail_any (w.drewN q) A cap g l s c hc (h.below (below_drewN (Below.refl w.heap.size w) q)))
  have hle := h.ok.le
  have HG := hide (fun W hW => refGetInt_at (cutA A cap s.at_) (cap - s.at_) (l.length - s.at_) (l.drop s.at_) W a k c (by rw [List.length_drop]) hg (by omega) (((h.arg.below (w' := W) hW (Nat.le_refl _)).cut s.at_ hle).reads))
  have HAT := hide (fun q => (h.below (below_drewN (Below.refl w.heap.size w) q)).at_set k (by omega) hc)
  have HBT := hide (fun q => (But.drewN g w q).trans (But.setCell g 1 (w.drewN q) (.int .i64 ((s.at_ : Int) + (k : Int)))))
  have HBQ := hide (fun q => But.drewN g w q)
  have k1 := fun W => run_cut_l W A l.length cap s.at_ hle
  have hcap := h.arg.le
  have c0 := h.c0
  have c1 := h.c1
  have f1 := h.free 1
  have hlt := h.lt
  clear h hg hc
  go_enter Tryd.func41, Tryd.ntmps41
  go_wp2_with fail
  refine HFI.out.mono ?_
  rintro e w0 ⟨rfl, rfl⟩
  go_wp2_with fail
  go_quiet (first | (go_at_call 35; exact Calls.quiet_of_same ((HG.out _ (below_drewN (Below.refl _ _) _)).mono fun _ _ ⟨h1, h2⟩ => ⟨h1, h2.symm⟩)))
  clear k1 HG
  by_cases hc0 : c = 0
  · subst hc0
    by_cases hm : a < lo
    · have HM := hide (show a < lo ∨ hi < a from .inl hm)
      have HF := hide (HFA.out nq 105 (by omega))
      go_wp2_with fail
      refine HF.out.mono ?_
      rintro e w1 ⟨rfl, hr1, hb1⟩
      go_wp2_with fail
      go_ret
      exact ⟨rfl, hr1, (HBQ.out nq).trans hb1⟩
    · by_cases hm2 : hi < a
      · have HM := hide (show a < lo ∨ hi < a from .inr hm2)
        have HF := hide (HFA.out nq 105 (by omega))
        go_wp2_with fail
        refine HF.out.mono ?_
        rintro e w1 ⟨rfl, hr1, hb1⟩
        go_wp2_with fail
        go_ret
        exact ⟨rfl, hr1, (HBQ.out nq).trans hb1⟩
      · have HM := hide (show ¬ (a < lo ∨ hi < a) by omega)
        go_wp2_with fail
        go_ret
        exact ⟨rfl, HAT.out nq, HBT.out nq⟩
  · have HC := hide hc0
    have hc1 : ((c : Int) == 0) = false := by simp; omega
    have HF := hide (HFA.out nq c (by omega))
    clear hc0
    go_wp2_with fail
    refine HF.out.mono ?_
    rintro e w1 ⟨rfl, hr1, hb1⟩
    go_wp2_with fail
    go_ret
    exact ⟨rfl, hr1, (HBQ.out nq).trans hb1⟩

set_option maxRecDepth 100000 in
theorem rnum_bad (w : World) (A : Option Addr) (cap g : Nat) (l : List UInt8) (s : Vi.Rs) (most : Nat) (h : RRd w A cap g l s) (hc : s.code ≠ 0) :
    Calls Tryd.prog 39 #[.pointer (some ⟨g, 0, none⟩), .int .u64 most] w fun e w' => e = .returned (.int .u64 0) ∧ w = w' := by
  have HFI := hide (fine_any w A cap g l s false h (by simp [hc]))
  clear h hc
  go_enter Tryd.func39, Tryd.ntmps39
  go_wp2_with fail
  refine HFI.out.mono ?_
  rintro e w0 ⟨rfl, rfl⟩
  go_wp2_with fail
  go_ret
  exact ⟨rfl, rfl⟩

set_option maxRecDepth 100000 in
theorem rint_bad (w : World) (A : Option Addr) (cap g : Nat) (l : List UInt8) (s : Vi.Rs) (lo hi : Int) (h : RRd w A cap g l s) (hc : s.code ≠ 0) :
    Calls Tryd.prog 41 #[.pointer (some ⟨g, 0, none⟩), .int .i64 lo, .int .i64 hi] w fun e w' => e = .returned (.int .i64 0) ∧ w = w' := by
  have HFI := hide (fine_any w A cap g l s false h (by simp [hc]))
  clear h hc
  go_enter Tryd.func41, Tryd.ntmps41
  go_wp2_with fail
  refine HFI.out.mono ?_
  rintro e w0 ⟨rfl, rfl⟩
  go_wp2_with fail
  go_ret
  exact ⟨rfl, rfl⟩

theorem rnum_any (w : World) (A : Option Addr) (cap g : Nat) (l : List UInt8) (s : Vi.Rs) (most : Nat) (h : RRd w A cap g l s) (hl : l.length ≤ 1000000) :
    Calls Tryd.prog 39 #[.pointer (some ⟨g, 0, none⟩), .int .u64 most] w fun e w' => e = .returned (.int .u64 (Vi.num l s most).1) ∧ RRd w' A cap g l (Vi.num l s most).2 ∧ But g w w' := by
  by_cases hc : s.code ≠ 0
  · have e : Vi.num l s most = (0, s) := by unfold Vi.num Vi.peek; rw [if_pos hc]; rfl
    rw [e]
    exact (rnum_bad w A cap g l s most h hc).mono fun e w' ⟨h1, h2⟩ => ⟨h1, h2 ▸ h, h2 ▸ But.refl g w⟩
  · have hc0 : s.code = 0 := by omega
    obtain ⟨_, h5, _, h4⟩ := Vi.getD_bd l s
    refine (rnum_good w A cap g l s most h hl hc0 _ _ _ rfl h4 h5).mono fun e w' hp => ?_
    unfold Vi.num Vi.peek
    rw [if_neg hc]
    simp only
    by_cases h5 : (Vi.get 0 0 (l.drop s.at_)).2.2 ≠ 0
    · rw [if_pos h5] at hp ⊢; exact hp
    · rw [if_neg h5] at hp ⊢
      by_cases h6 : most < (Vi.get 0 0 (l.drop s.at_)).1
      · rw [if_pos h6] at hp ⊢; exact hp
      · rw [if_neg h6] at hp ⊢; exact hp

theorem rint_any (w : World) (A : Option Addr) (cap g : Nat) (l : List UInt8) (s : Vi.Rs) (lo hi : Int) (h : RRd w A cap g l s) (hl : l.length ≤ 1000000) :
    Calls Tryd.prog 41 #[.pointer (some ⟨g, 0, none⟩), .int .i64 lo, .int .i64 hi] w fun e w' => e = .returned (.int .i64 (Vi.int l s lo hi).1) ∧ RRd w' A cap g l (Vi.int l s lo hi).2 ∧ But g w w' := by
  by_cases hc : s.code ≠ 0
  · have e : Vi.int l s lo hi = (0, s) := by unfold Vi.int Vi.peekI; rw [if_pos hc]; rfl
    rw [e]
    exact (rint_bad w A cap g l s lo hi h hc).mono fun e w' ⟨h1, h2⟩ => ⟨h1, h2 ▸ h, h2 ▸ But.refl g w⟩
  · have hc0 : s.code = 0 := by omega
    obtain ⟨_, h5, _, h4⟩ := Vi.getD_bd l s
    refine (rint_good w A cap g l s lo hi h hl hc0 _ _ _ rfl h4 h5).mono fun e w' hp => ?_
    unfold Vi.int Vi.peekI
    rw [if_neg hc]
    simp only
    by_cases h5 : (Vi.get 0 0 (l.drop s.at_)).2.2 ≠ 0
    · rw [if_pos h5] at hp ⊢; exact hp
    · rw [if_neg h5] at hp ⊢
      by_cases h6 : Vi.unzz (Vi.get 0 0 (l.drop s.at_)).1 < lo ∨ hi < Vi.unzz (Vi.get 0 0 (l.drop s.at_)).1
      · rw [if_pos h6] at hp ⊢; exact hp
      · rw [if_neg h6] at hp ⊢; exact hp
end Go.Proofs.YtdiplknlkmealaaDoor
