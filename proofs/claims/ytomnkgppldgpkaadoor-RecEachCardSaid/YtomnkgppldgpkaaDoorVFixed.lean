/-
  The walk through a reader's Fixed.
-/
import Derived.Test.YtomnkgppldgpkaaDoorVMeth
namespace Go.Proofs.YtomnkgppldgpkaaDoor
open Go.RowKit

theorem or64g (n x e : Nat) (hn : n < 2 ^ e) (hn2 : n < 18446744073709551616) (h : x * 2 ^ e < 18446744073709551616) : bits .or .u64 (n : Int) (IntKind.u64.wrap ((x : Int) * 2 ^ e)) = ((n + x * 2 ^ e : Nat) : Int) := by
  have e1 : IntKind.u64.wrap ((x : Int) * 2 ^ e) = ((x * 2 ^ e : Nat) : Int) := by
    have : ((x : Int) * 2 ^ e) = ((x * 2 ^ e : Nat) : Int) := by simp
    rw [IntKind.wrap_u64, this]; omega
  rw [e1, u64_or_nat _ _ hn2 h, Nat.or_comm, nat_join e _ _ (Nat.mul_mod_left _ _) hn, Nat.add_comm]
theorem little_snoc (l : List UInt8) (c : UInt8) : Vi.little (l ++ [c]) = Vi.little l + c.toNat * 2 ^ (8 * l.length) := by
  induction l with
  | nil => simp [Vi.little]
  | cons a l ih =>
    simp only [List.cons_append, Vi.little, ih, List.length_cons]
    rw [show 8 * (l.length + 1) = 8 * l.length + 8 by omega, Nat.pow_add, Nat.mul_add, show (2 : Nat) ^ 8 = 256 from rfl]
    have : c.toNat * (2 ^ (8 * l.length) * 256) = 256 * (c.toNat * 2 ^ (8 * l.length)) := by
      rw [← Nat.mul_assoc, Nat.mul_comm]
    omega
theorem little_lt (l : List UInt8) : Vi.little l < 2 ^ (8 * l.length) := by
  induction l with
  | nil => simp [Vi.little]
  | cons a l ih =>
    simp only [Vi.little, List.length_cons]
    rw [show 8 * (l.length + 1) = 8 * l.length + 8 by omega, Nat.pow_add, show (2 : Nat) ^ 8 = 256 from rfl]
    have := a.toNat_lt
    omega
theorem pow_le64 (k : Nat) (h : k ≤ 7) : 2 ^ (8 * k) ≤ 72057594037927936 := Nat.le_trans (Nat.pow_le_pow_right (by omega) (show 8 * k ≤ 56 by omega)) (by decide)
theorem little_or (l : List UInt8) (c : UInt8) (h : l.length ≤ 7) : bits .or .u64 (Vi.little l : Int) (IntKind.u64.wrap (B c * 2 ^ (8 * l.length))) = (Vi.little (l ++ [c]) : Int) := by
  rw [little_snoc]
  have h1 := little_lt l
  have h2 := pow_le64 l.length h
  have hc := c.toNat_lt
  refine or64g (Vi.little l) c.toNat (8 * l.length) h1 (by omega) ?_
  have : c.toNat * 2 ^ (8 * l.length) ≤ 255 * 72057594037927936 := Nat.mul_le_mul (by omega) h2
  omega

set_option maxRecDepth 100000 in
set_option maxHeartbeats 1000000 in
theorem fixed_any (w : World) (p : Nat → Addr) (g : Nat) (l : List UInt8) (s : Vi.Rs) (n : Int) (h1 : -9223372036854775808 ≤ n) (h2 : n ≤ 9223372036854775807) (h : Rdr w p g l s) (hs : Sents5 w p) (hl : l.length ≤ 1000000) :
    Calls Tryd.prog 19 #[.pointer (some ⟨g, 0, none⟩), .int .i64 n] w fun e w' => e = .returned (.int .u64 (Vi.fixed l s n).1) ∧ Rdr w' p g l (Vi.fixed l s n).2 ∧ But g w w' := by
  have HR := hide h
  have HE : Hid (Vi.fixed l s n = if s.code ≠ 0 ∨ n < 0 ∨ 8 < n then (0, s) else if l.length < s.at_ + n.toNat then (0, s.fail 101) else (Vi.little ((l.drop s.at_).take n.toNat), s.on n.toNat)) := hide rfl
  generalize Vi.fixed l s n = T at *
  obtain ⟨A, cap, E, c0, c1, c2, ha, hne, he⟩ := h.ex
  have hlt := h.lt
  have hfr := h.free 1
  have hat := h.ok.le
  by_cases hc : s.code ≠ 0
  · obtain ⟨u, x, rfl⟩ := he.bad hc
    have k1 := neq_nil u x
    have HT : Hid (T = (0, s)) := by show _ = _; rw [HE.out, if_pos (.inl hc)]
    clear h ha hne he hc c0 c1 hs
    go_enter Tryd.func19, Tryd.ntmps19
    go_wp2_with fail
    go_ret
    rw [HT.out]
    exact ⟨rfl, HR.out, But.refl _ _⟩
  · obtain rfl := he.good (by omega)
    by_cases hn : n < 0 ∨ 8 < n
    · have HT : Hid (T = (0, s)) := by show _ = _; rw [HE.out, if_pos (.inr hn)]
      clear h ha hne he hc c0 c1 hs HE
      rcases hn with hn | hn
      · have hd : decide (n < 0) = true := by simp [hn]
        go_enter Tryd.func19, Tryd.ntmps19
        go_wp2_with fail
        go_ret
        rw [HT.out]
        exact ⟨rfl, HR.out, But.refl _ _⟩
      · have hd : decide (n < 0) = false := by simp; omega
        have hd2 : decide (8 < n) = true := by simp [hn]
        go_enter Tryd.func19, Tryd.ntmps19
        go_wp2_with fail
        go_ret
        rw [HT.out]
        exact ⟨rfl, HR.out, But.refl _ _⟩
    · obtain ⟨m, rfl⟩ := Int.eq_ofNat_of_zero_le (show 0 ≤ n by omega)
      have hm8 : m ≤ 8 := by omega
      have hno : ¬ (s.code ≠ 0 ∨ (m : Int) < 0 ∨ 8 < (m : Int)) := by omega
      rw [if_neg hno, Int.toNat_natCast] at HE
      have HLEFT := hide (rleft_any w p g l s h hl)
      by_cases hlen : l.length < s.at_ + m
      · have HT : Hid (T = (0, s.fail 101)) := by show _ = _; rw [HE.out, if_pos hlen]
        have hn' : ((l.length - s.at_ : Nat) : Int) < (m : Int) := by omega
        have HRQ := hide (fun q => HR.out.below (below_drewN (Below.refl w.heap.size w) q))
        have c4 : w.cell? ⟨0, 0, none⟩ = some (.iface 130 (.pointer (some (p 0)))) := hs.cell 0 (by omega)
        have HF := hide (fun q => fail_end (w.drewN q) p g l s (HRQ.out q) (hs.below (below_drewN (Below.refl w.heap.size w) q)))
        unfold errV at HF
        clear h ha hne he hc hno hn hlen HE hs c0 c1 h1 h2
        go_enter Tryd.func19, Tryd.ntmps19
        go_wp2_with fail
        refine HLEFT.out.mono ?_
        rintro e w2 ⟨rfl, q, rfl⟩
        go_wp2_with fail
        refine (HF.out q).mono ?_
        rintro e w3 ⟨rfl, hr3, hb3⟩
        go_wp2_with fail
        go_ret
        rw [HT.out]
        exact ⟨rfl, hr3, (But.drewN g w q).trans hb3⟩
      · have HT : Hid (T = (Vi.little ((l.drop s.at_).take m), s.on m)) := by show _ = _; rw [HE.out, if_neg hlen]
        have hn' : ¬ ((l.length - s.at_ : Nat) : Int) < (m : Int) := by omega
        have hk1 : ∀ W, (Instr.sliceAt 22 (.slice A l.length cap) (some (.int .i64 (s.at_ : Int))) (some (.int .i64 ((s.at_ : Int) + (m : Int)))) none).run Tryd.prog W = .ok (.slice (cutA A cap s.at_) m (cap - s.at_)) W := fun W => by
          have h := run_cut_lh W A l.length cap s.at_ (s.at_ + m) (by omega) (by have := ha.le; omega)
          rw [show s.at_ + m - s.at_ = m by omega, Int.natCast_add] at h
          exact h
        have hml : ((l.drop s.at_).take m).length = m := by rw [List.length_take, List.length_drop]; omega
        have HML := hide hml
        have HRD := hide (((ha.cut s.at_ hat).first m).reads)
        have HCC := hide (fun q => (HR.out.below (below_drewN (Below.refl w.heap.size w) q)).at_add m (by omega) (fun h => absurd h hc))
        clear h ha hne he hc hno hn HE hs h1 h2 hml
        generalize (l.drop s.at_).take m = u at *
        generalize cutA A cap s.at_ = A' at *
        go_enter Tryd.func19, Tryd.ntmps19
        go_wp2_with fail
        refine HLEFT.out.mono ?_
        rintro e w2 ⟨rfl, q, rfl⟩
        go_wp2_with fail
        go_quiet (fail)
        have HC1 := hide (fun q => (HCC.out q))
        go_wp2_with fail
        go_loop [5, 44] (fun v i => ∃ k : Nat, k ≤ m ∧ i = .int .i64 k ∧ v = .int .u64 (Vi.little (u.take k))) (fun _ i => m - (intOf i).toNat)
        case atStart => exact ⟨0, Nat.zero_le _, rfl, rfl⟩
        case round =>
          obtain ⟨k, hk, rfl, rfl⟩ := hrel
          by_cases hkm : k < m
          · have hku : k < u.length := by rw [HML.out]; exact hkm
            rcases HRD.out with rfl | ⟨b, off, rfl, hb, hcl⟩
            · simp at hku
            have hcell := hcl k hku
            have hlk : (u.take k).length = k := by rw [List.length_take]; omega
            have hsn : u.take (k + 1) = u.take k ++ [u.getD k 0] := by
              rw [List.take_succ_eq_append_getElem hku]; simp [List.getD, hku]
            have hor := little_or (u.take k) (u.getD k 0) (by omega)
            rw [hlk, ← hsn] at hor
            have HSN := hide hsn
            have hb1 := B_lo (u.getD k 0)
            have hb2 := B_hi (u.getD k 0)
            clear hcl hsn hlk hku
            generalize u.getD k 0 = c at *
            generalize Vi.little (u.take k) = v0 at *
            generalize hv1 : Vi.little (u.take (k + 1)) = v1 at *
            have HV1 := hide hv1
            clear hv1
            go_wp2_with fail
            exact ⟨⟨_, _, _, _, ⟨k + 1, by omega, rfl, by rw [HV1.out]⟩, rfl, rfl, rfl, rfl⟩, by simp [intOf]; omega⟩
          · obtain rfl : k = m := by omega
            have HU : Hid (u.take k = u) := by show _ = _; rw [← HML.out, List.take_length]
            go_wp2_with fail
            go_ret
            rw [HT.out]
            exact ⟨by rw [HU.out]; rfl, HC1.out _, (But.drewN g w _).trans (But.setCell g 1 _ _)⟩
end Go.Proofs.YtomnkgppldgpkaaDoor
