/-
  The walks through the reference's Fixed, and its reader's.
-/
import Derived.Test.YtdiplknlkmealaaDoorRText
namespace Go.Proofs.YtdiplknlkmealaaDoor
open Go.RowKit

set_option maxRecDepth 100000 in
set_option maxHeartbeats 1000000 in
/-- The lowest byte first, of at most eight. -/
theorem refFixed_any (A : Option Addr) (cap m : Nat) (u : List UInt8) (w : World) (hu : u.length = m) (hm : m ≤ 8) (hr : Reads w A u) :
    Calls Tryd.prog 52 #[.slice A m cap] w fun e w' => e = .returned (.int .u64 (Vi.little u)) ∧ w = w' := by
  have HRD := hide hr
  have HML := hide hu
  clear hr hu
  go_enter Tryd.func52, Tryd.ntmps52
  go_wp2_with fail
  go_loop [3, 4] (fun v i => ∃ k : Nat, k ≤ m ∧ i = .int .i64 k ∧ v = .int .u64 (Vi.little (u.take k))) (fun _ i => m - (intOf i).toNat)
  case atStart => exact ⟨0, Nat.zero_le _, rfl, rfl⟩
  case round =>
    obtain ⟨k, hk, rfl, rfl⟩ := hrel
    by_cases hkm : k < m
    · have hku : k < u.length := by rw [HML.out]; exact hkm
      have hk8 : k < 8 := by omega
      rcases HRD.out with rfl | ⟨b, off, rfl, hb, hcl⟩
      · simp at hku
      have hcell := hcl k hku
      have hlk : (u.take k).length = k := by rw [List.length_take]; omega
      have hsn : u.take (k + 1) = u.take k ++ [u.getD k 0] := by
        rw [List.take_succ_eq_append_getElem hku]; simp [List.getD, hku]
      have hor := little_or (u.take k) (u.getD k 0) (by omega)
      rw [hlk, ← hsn] at hor
      have HSN := hide hsn
      have hb1 := B_lo (u.getD k 0)
      have hb2 := B_hi (u.getD k 0)
      clear hcl hsn hlk hku
      generalize u.getD k 0 = c at *
      generalize Vi.little (u.take k) = v0 at *
      generalize hv1 : Vi.little (u.take (k + 1)) = v1 at *
      have HV1 := hide hv1
      clear hv1
      go_wp2_with fail
      exact ⟨⟨k + 1, by omega, rfl, by rw [HV1.out]⟩, by simp [intOf]; omega⟩
    · obtain rfl : k = m := by omega
      have HU : Hid (u.take k = u) := by show _ = _; rw [← HML.out, List.take_length]
      go_wp2_with fail
      go_ret
      exact ⟨by rw [HU.out]; rfl, rfl⟩

set_option maxRecDepth 100000 in
set_option maxHeartbeats 1000000 in
theorem rfixed_any (w : World) (A : Option Addr) (cap g : Nat) (l : List UInt8) (s : Vi.Rs) (n : Int) (_ : -9223372036854775808 ≤ n) (_ : n ≤ 9223372036854775807) (h : RRd w A cap g l s) (hl : l.length ≤ 1000000) :
    Calls Tryd.prog 45 #[.pointer (some ⟨g, 0, none⟩), .int .i64 n] w fun e w' => e = .returned (.int .u64 (Vi.fixed l s n).1) ∧ RRd w' A cap g l (Vi.fixed l s n).2 ∧ But g w w' := by
  have HR := hide h
  have HE : Hid (Vi.fixed l s n = if s.code ≠ 0 ∨ n < 0 ∨ 8 < n then (0, s) else if l.length < s.at_ + n.toNat then (0, s.fail 101) else (Vi.little ((l.drop s.at_).take n.toNat), s.on n.toNat)) := hide rfl
  generalize Vi.fixed l s n = T at *
  have hlt := h.lt
  have hfr := h.free 1
  have hat := h.ok.le
  have c0 := h.c0
  have c1 := h.c1
  by_cases hc : s.code ≠ 0
  · have HFI := hide (fine_any w A cap g l s false h (by simp [hc]))
    have HT : Hid (T = (0, s)) := by show _ = _; rw [HE.out, if_pos (.inl hc)]
    clear h hc c0 c1 HE
    go_enter Tryd.func45, Tryd.ntmps45
    go_wp2_with fail
    refine HFI.out.mono ?_
    rintro e w2 ⟨rfl, rfl⟩
    go_wp2_with fail
    go_ret
    rw [HT.out]
    exact ⟨rfl, HR.out, But.refl _ _⟩
  · have HFI := hide (fine_any w A cap g l s true h (by simp; omega))
    by_cases hn : n < 0 ∨ 8 < n
    · have HT : Hid (T = (0, s)) := by show _ = _; rw [HE.out, if_pos (.inr hn)]
      clear h hc c0 c1 HE
      rcases hn with hn | hn
      · have hd : decide (n < 0) = true := by simp [hn]
        go_enter Tryd.func45, Tryd.ntmps45
        go_wp2_with fail
        refine HFI.out.mono ?_
        rintro e w2 ⟨rfl, rfl⟩
        go_wp2_with fail
        go_ret
        rw [HT.out]
        exact ⟨rfl, HR.out, But.refl _ _⟩
      · have hd : decide (n < 0) = false := by simp; omega
        have hd2 : decide (8 < n) = true := by simp [hn]
        go_enter Tryd.func45, Tryd.ntmps45
        go_wp2_with fail
        refine HFI.out.mono ?_
        rintro e w2 ⟨rfl, rfl⟩
        go_wp2_with fail
        go_ret
        rw [HT.out]
        exact ⟨rfl, HR.out, But.refl _ _⟩
    · obtain ⟨m, rfl⟩ := Int.eq_ofNat_of_zero_le (show 0 ≤ n by omega)
      have hm8 : m ≤ 8 := by omega
      have hno : ¬ (s.code ≠ 0 ∨ (m : Int) < 0 ∨ 8 < (m : Int)) := by omega
      rw [if_neg hno, Int.toNat_natCast] at HE
      by_cases hlen : l.length < s.at_ + m
      · have HT : Hid (T = (0, s.fail 101)) := by show _ = _; rw [HE.out, if_pos hlen]
        have hn' : (l.length : Int) - (s.at_ : Int) < (m : Int) := by omega
        have HRQ := hide (fun q => HR.out.below (below_drewN (Below.refl w.heap.size w) q))
        have HF := hide (fun q => rfail_end (w.drewN q) A cap g l s (HRQ.out q))
        clear h hc hno hn hlen HE
        go_enter Tryd.func45, Tryd.ntmps45
        go_wp2_with fail
        refine HFI.out.mono ?_
        rintro e w2 ⟨rfl, rfl⟩
        go_wp2_with fail
        go_quiet (fail)
        go_wp2_with fail
        refine (HF.out _).mono ?_
        rintro e w3 ⟨rfl, hr3, hb3⟩
        go_wp2_with fail
        go_ret
        rw [HT.out]
        exact ⟨rfl, hr3, (But.drewN g w _).trans hb3⟩
      · have HT : Hid (T = (Vi.little ((l.drop s.at_).take m), s.on m)) := by show _ = _; rw [HE.out, if_neg hlen]
        have hn' : ¬ (l.length : Int) - (s.at_ : Int) < (m : Int) := by omega
        have hk1 : ∀ W, (Instr.sliceAt 22 (.slice A l.length cap) (some (.int .i64 (s.at_ : Int))) (some (.int .i64 ((s.at_ : Int) + (m : Int)))) none).run Tryd.prog W = .ok (.slice (cutA A cap s.at_) m (cap - s.at_)) W := fun W => by
          have h := run_cut_lh W A l.length cap s.at_ (s.at_ + m) (by omega) (by have := h.arg.le; omega)
          rw [show s.at_ + m - s.at_ = m by omega, Int.natCast_add] at h
          exact h
        have hml : ((l.drop s.at_).take m).length = m := by rw [List.length_take, List.length_drop]; omega
        have HCC := hide (fun q => (HR.out.below (below_drewN (Below.refl w.heap.size w) q)).at_set m (by omega) (by omega))
        have HBB := hide (fun q => (But.drewN g w q).trans (But.setCell g 1 (w.drewN q) (.int .i64 ((s.at_ : Int) + (m : Int)))))
        have HFX := hide (fun q r => refFixed_any (cutA A cap s.at_) (cap - s.at_) m _ (((w.drewN q).setCell ⟨g, 1, none⟩ (.int .i64 ((s.at_ : Int) + (m : Int)))).drewN r) hml hm8 ((((HCC.out q).below (below_drewN (Below.refl _ _) r)).arg.cut s.at_ hat).first m).reads)
        have HA : Hid ((s.at_ : Int) + (m : Int) - (m : Int) = s.at_) := by show _ = _; omega
        have ha := HA.out
        clear h hc hno hn hlen HE hml
        generalize (l.drop s.at_).take m = u at *
        go_enter Tryd.func45, Tryd.ntmps45
        go_wp2_with fail
        refine HFI.out.mono ?_
        rintro e w2 ⟨rfl, rfl⟩
        go_wp2_with fail
        go_quiet (fail)
        go_wp2_with fail
        go_quiet (first | (go_at_call 52; exact Calls.quiet_of_same ((HFX.out _ _).mono fun _ _ ⟨h1, h2⟩ => ⟨h1, h2.symm⟩)))
        go_wp2_with fail
        go_ret
        rw [HT.out]
        exact ⟨rfl, (HCC.out _).below (below_drewN (Below.refl _ _) _), (HBB.out _).trans (But.drewN g _ _)⟩
end Go.Proofs.YtdiplknlkmealaaDoor
