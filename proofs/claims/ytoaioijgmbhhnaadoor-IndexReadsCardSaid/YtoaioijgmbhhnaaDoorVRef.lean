/-
  The walks through the reference's numbers as bytes: the same plain answers.
-/
import Derived.Test.YtoaioijgmbhhnaaDoorVGet
import Derived.Test.YtoaioijgmbhhnaaDoorVint
namespace Go.Proofs.YtoaioijgmbhhnaaDoor
open Go.RowKit

theorem and127 (x : UInt8) : bits .and .u8 (B x) 127 = ((x.toNat % 128 : Nat) : Int) := by
  unfold B
  rw [show (127 : Int) = ((127 : Nat) : Int) from rfl, u8_and_nat _ _ x.toNat_lt (by omega)]
  congr 1
  exact Nat.and_two_pow_sub_one_eq_mod x.toNat 7

set_option maxRecDepth 100000 in
set_option maxHeartbeats 1000000 in
theorem refGet_any (A : Option Addr) (cap : Nat) (l : List UInt8) (w : World) (hl : l.length ≤ 1000000) (hr : Reads w A l) :
    Calls Tryd.prog 93 #[.slice A l.length cap] w fun e w' => e = .returned (.tuple #[.int .u64 (Vi.get 0 0 l).1, .int .i64 (Vi.get 0 0 l).2.1, .int .i64 (Vi.get 0 0 l).2.2]) ∧ w = w' := by
  have HR := hide hr
  clear hr
  go_enter Tryd.func93, Tryd.ntmps93
  go_wp2_with fail
  go_loop [5, 6] (fun n i => ∃ (k acc : Nat), k ≤ 10 ∧ k ≤ l.length ∧ i = .int .i64 k ∧ n = .int .u64 acc ∧ acc < 2 ^ (7 * k) ∧ Vi.get k acc (l.drop k) = Vi.get 0 0 l) (fun _ i => 10 - (intOf i).toNat)
  case atStart => exact ⟨0, 0, Nat.zero_le _, Nat.zero_le _, rfl, rfl, by omega, rfl⟩
  case round =>
    obtain ⟨k, acc, hk, hkl, rfl, rfl, hacc, hg⟩ := hrel
    by_cases h10 : k < 10
    · by_cases hlt : k < l.length
      · rcases HR.out with rfl | ⟨b, off, rfl, hb, hcl⟩
        · simp at hlt
        have hcell := hcl k hlt
        have hd : l.drop k = l.getD k 0 :: l.drop (k + 1) := by
          rw [List.drop_eq_getElem_cons hlt]; simp [List.getD, hlt]
        rw [hd, Vi.get, if_neg (by omega)] at hg
        clear hcl hd
        have HSH : Hid (∀ a r, Vi.get 10 a r = (0, 0, 103)) := hide (fun a r => by
          cases r with
          | nil => rfl
          | cons c r => rw [Vi.get, if_pos (by omega)])
        generalize l.getD k 0 = c at *
        have ha := and127 c
        have hb1 := B_lo c
        have hb2 := B_hi c
        have hcB : B c = (c.toNat : Int) := rfl
        have hx : c.toNat % 128 < 128 := by omega
        have HOR := hide (fun h8 => or_at acc (c.toNat % 128) k (by omega) hacc hx h8)
        have HACC := hide (acc_next acc (c.toNat % 128) k hacc hx)
        have HX : Hid (c.toNat % 128 = c.toNat % 128) := hide rfl
        clear hacc
        by_cases h9 : k = 9 ∧ 1 < c.toNat % 128
        · obtain ⟨h9, hx1⟩ := h9
          have HG : Hid ((0, 0, 103) = Vi.get 0 0 l) := by
            show _ = _
            rw [← hg]
            by_cases h128 : 128 ≤ c.toNat
            · rw [if_pos h128, h9, HSH.out]
            · rw [if_neg h128, if_pos (by omega)]
          have hk9 : ((k : Int) == 9) = true := by rw [h9]; rfl
          clear hg hcB h9 HX
          generalize c.toNat % 128 = x at *
          go_wp2_with fail
          go_ret3
          exact ⟨by rw [← HG.out]; rfl, rfl⟩
        · by_cases h0 : 0 < k ∧ c.toNat = 0
          · obtain ⟨h0, hc0⟩ := h0
            have HG : Hid ((0, 0, 103) = Vi.get 0 0 l) := by
              show _ = _
              rw [← hg, if_neg (by omega), if_pos (by omega)]
            have hz : (B c == 0) = true := by rw [hcB, hc0]; rfl
            have hxz : c.toNat % 128 ≤ 1 := by omega
            clear hg hcB h9 hc0 HX
            generalize c.toNat % 128 = x at *
            by_cases hk9 : ((k : Int) == 9) = true
            · go_wp2_with fail
              go_ret3
              exact ⟨by rw [← HG.out]; rfl, rfl⟩
            · have hk9 := Bool.eq_false_iff.2 hk9
              go_wp2_with fail
              go_ret3
              exact ⟨by rw [← HG.out]; rfl, rfl⟩
          · have kc : ((((k : Int) == 9) = true) ∧ c.toNat % 128 ≤ 1 ∧ 0 < k ∧ ((B c == 0) = false)) ∨ ((((k : Int) == 9) = false) ∧ 0 < k ∧ ((B c == 0) = false)) ∨ ((((k : Int) == 9) = false) ∧ k ≤ 0) := by
              by_cases h1 : k = 9
              · left
                refine ⟨by rw [h1]; rfl, by omega, by omega, ?_⟩
                rw [beq_eq_false_iff_ne, hcB]; omega
              · right
                by_cases h2 : 0 < k
                · left
                  refine ⟨by rw [beq_eq_false_iff_ne]; omega, h2, ?_⟩
                  rw [beq_eq_false_iff_ne, hcB]; omega
                · right
                  exact ⟨by rw [beq_eq_false_iff_ne]; omega, by omega⟩
            have hor := HOR.out (by omega)
            have HOR := hide hor
            clear hor
            by_cases h128 : 128 ≤ c.toNat
            · rw [if_pos h128] at hg
              have hB : 128 ≤ B c := by rw [hcB]; omega
              have HG := hide hg
              clear hg hcB h128 h9 h0 HX
              generalize c.toNat % 128 = x at *
              rcases kc with ⟨k9, x1, k0, cz⟩ | ⟨k9, k0, cz⟩ | ⟨k9, k0⟩
              · go_wp2_with fail
                exact ⟨⟨k + 1, _, by omega, by omega, by go_num, congrArg (Value.int .u64) HOR.out, HACC.out, HG.out⟩, by simp [intOf]; omega⟩
              · go_wp2_with fail
                exact ⟨⟨k + 1, _, by omega, by omega, by go_num, congrArg (Value.int .u64) HOR.out, HACC.out, HG.out⟩, by simp [intOf]; omega⟩
              · go_wp2_with fail
                exact ⟨⟨k + 1, _, by omega, by omega, by go_num, congrArg (Value.int .u64) HOR.out, HACC.out, HG.out⟩, by simp [intOf]; omega⟩
            · have hcx : c.toNat % 128 = c.toNat := by omega
              rw [if_neg h128, if_neg (by omega), ← hcx] at hg
              have hB : B c < 128 := by rw [hcB]; omega
              have HG := hide hg
              clear hg hcB h128 h9 h0 HX hcx
              generalize c.toNat % 128 = x at *
              rcases kc with ⟨k9, x1, k0, cz⟩ | ⟨k9, k0, cz⟩ | ⟨k9, k0⟩
              · go_wp2_with fail
                go_ret3
                exact ⟨by rw [← HG.out]; exact ret3 (congrArg (Value.int .u64) HOR.out) rfl rfl, rfl⟩
              · go_wp2_with fail
                go_ret3
                exact ⟨by rw [← HG.out]; exact ret3 (congrArg (Value.int .u64) HOR.out) rfl rfl, rfl⟩
              · go_wp2_with fail
                go_ret3
                exact ⟨by rw [← HG.out]; exact ret3 (congrArg (Value.int .u64) HOR.out) rfl rfl, rfl⟩
      · have HG : Hid ((0, 0, 101) = Vi.get 0 0 l) := by
          show _ = _
          rw [← hg, List.drop_of_length_le (by omega), Vi.get, if_pos h10]
        clear hg
        go_wp2_with fail
        go_ret3
        exact ⟨by rw [← HG.out]; rfl, rfl⟩
    · have HG : Hid ((0, 0, 103) = Vi.get 0 0 l) := by
        show _ = _
        rw [← hg]
        obtain rfl : k = 10 := by omega
        cases l.drop 10 with
        | nil => rfl
        | cons c r => rw [Vi.get, if_pos (by omega)]
      clear hg
      go_wp2_with fail
      go_ret3
      exact ⟨by rw [← HG.out]; rfl, rfl⟩


set_option maxRecDepth 100000 in
set_option maxHeartbeats 400000 in
theorem refGetInt_any (A : Option Addr) (cap : Nat) (l : List UInt8) (w : World) (hl : l.length ≤ 1000000) (hr : Reads w A l) :
    Calls Tryd.prog 95 #[.slice A l.length cap] w fun e w' => e = .returned (.tuple #[.int .i64 (Vi.unzz (Vi.get 0 0 l).1), .int .i64 (Vi.get 0 0 l).2.1, .int .i64 (Vi.get 0 0 l).2.2]) ∧ w = w' := by
  have HG := hide (refGet_any A cap l w hl hr)
  obtain ⟨hb, -⟩ := Vi.get_lt l 0 0 (by omega) (by omega)
  clear hr hl
  generalize Vi.get 0 0 l = g at *
  have ha := and1_u64 g.1 hb
  have hdv : g.1 / 2 < 9223372036854775808 := by omega
  have hb2 : (g.1 : Int) / 2 ≤ 9223372036854775807 := by omega
  have hcast : (g.1 : Int) / 2 = ((g.1 / 2 : Nat) : Int) := by omega
  rcases Nat.mod_two_eq_zero_or_one g.1 with h2 | h2
  · have HU : Hid (Vi.unzz g.1 = ((g.1 / 2 : Nat) : Int)) := by show _ = _; unfold Vi.unzz; rw [if_pos h2]
    rw [h2] at ha
    have hx := xor_i64_nil _ hdv
    rw [← hcast] at hx HU
    clear hb hdv h2 hcast
    go_enter Tryd.func95, Tryd.ntmps95
    go_wp2_with fail
    refine HG.out.mono ?_
    rintro e w' ⟨rfl, rfl⟩
    go_wp2_with fail
    go_ret3
    exact ⟨ret3 (congrArg (Value.int .i64) HU.out.symm) rfl rfl, rfl⟩
  · have HU : Hid (Vi.unzz g.1 = -((g.1 / 2 : Nat) : Int) - 1) := by show _ = _; unfold Vi.unzz; rw [if_neg (by omega)]
    rw [h2] at ha
    have hx := xor_i64_all _ hdv
    rw [← hcast] at hx HU
    clear hb hdv h2 hcast
    go_enter Tryd.func95, Tryd.ntmps95
    go_wp2_with fail
    refine HG.out.mono ?_
    rintro e w' ⟨rfl, rfl⟩
    go_wp2_with fail
    go_ret3
    exact ⟨ret3 (congrArg (Value.int .i64) HU.out.symm) rfl rfl, rfl⟩
end Go.Proofs.YtoaioijgmbhhnaaDoor
