/-
  The reference's names: numbers, kinds, valid bytes.
-/
import Derived.Test.YtklmbfmcfjibbaaDoorNsT
namespace Go.Proofs.YtklmbfmcfjibbaaDoor
open Go.RowKit Go.Shelf

theorem str_index (l : List UInt8) (i : Nat) (h : i < l.length) (W : World) : (Instr.index 9 (str l) (.int .i64 (i : Int))).run Tryd.prog W = .ok (.int .u8 (B (l.getD i 0))) W := by
  have hg : (⟨l.toArray⟩ : ByteArray)[i]? = some l[i] := by
    rw [getElem?_pos (⟨l.toArray⟩ : ByteArray) i (by simpa [ByteArray.size] using h)]
    rfl
  simp [Instr.index, run_underlying Tryd.underlying9, asIntOf, hg, B, List.getD, h]
instance (c : UInt8) : Decidable (Nm.digit c) := inferInstanceAs (Decidable (_ ∧ _))
def numB (s : List UInt8) : Int × Bool := if ∀ c ∈ s, Nm.digit c then ((Nm.val 0 s : Int), true) else (0, false)
theorem take_snoc8 (s : List UInt8) (k : Nat) (h : k < s.length) : s.take (k + 1) = s.take k ++ [s.getD k 0] := by
  rw [List.take_succ_eq_append_getElem h]
  simp [List.getD, h]
theorem getD_mem8 (s : List UInt8) (k : Nat) (h : k < s.length) : s.getD k 0 ∈ s := by
  rw [show s.getD k 0 = s[k] from by simp [List.getD, h]]
  exact List.getElem_mem _

theorem right1_any (b : Int) (w : World) : Calls Tryd.prog 27 #[.int .i64 b] w fun e w' => e = .returned (.bool (rightB b)) ∧ w' = w := by
  by_cases h1 : 0 ≤ b
  · have d1 : decide (0 ≤ b) = true := by simp [h1]
    by_cases h2 : b ≤ 1099511627776
    · have d2 : decide (b ≤ 1099511627776) = true := by simp [h2]
      have hr : rightB b = true := by simp [rightB, Nm.right, h1, h2]
      rw [hr]
      go_enter Tryd.func27, Tryd.ntmps27
      go_wp2_with fail
      go_ret
      exact ⟨rfl, rfl⟩
    · have d2 : decide (b ≤ 1099511627776) = false := by simp; omega
      have hr : rightB b = false := decide_eq_false fun h => by unfold Nm.right at h; omega
      rw [hr]
      go_enter Tryd.func27, Tryd.ntmps27
      go_wp2_with fail
      go_ret
      exact ⟨rfl, rfl⟩
  · have d1 : decide (0 ≤ b) = false := by simp; omega
    have hr : rightB b = false := decide_eq_false fun h => by unfold Nm.right at h; omega
    rw [hr]
    go_enter Tryd.func27, Tryd.ntmps27
    go_wp2_with fail
    go_ret
    exact ⟨rfl, rfl⟩

set_option maxRecDepth 100000 in
theorem number1_any (s : List UInt8) (w : World) (hs : s.length ≤ 17) :
    Calls Tryd.prog 26 #[str s] w fun e w' => e = .returned (.tuple #[.int .i64 (numB s).1, .bool (numB s).2]) ∧ w' = w := by
  obtain ⟨r, hr⟩ : ∃ r, r = numB s := ⟨_, rfl⟩
  rw [← hr]
  have HR := Lib.hid hr
  clear hr
  obtain ⟨L, hL⟩ : ∃ L, L = s.length := ⟨_, rfl⟩
  have hsz : (⟨s.toArray⟩ : ByteArray).size = L := by rw [hL]; show s.toArray.size = _; simp
  have HL := Lib.hid hL
  have hl17 : L ≤ 17 := by omega
  clear hL hs
  go_enter Tryd.func26, Tryd.ntmps26
  go_wp2_with fail
  go_loop [4, 5] (fun n i => ∃ k : Nat, k ≤ L ∧ i = .int .i64 k ∧ n = .int .i64 (Nm.val 0 (s.take k) : Nat) ∧ ∀ c ∈ s.take k, Nm.digit c) (fun _ i => L - (intOf i).toNat)
  case atStart => exact ⟨0, Nat.zero_le _, rfl, rfl, by simp⟩
  case round =>
    obtain ⟨k, hk, rfl, rfl, hd⟩ := hrel
    by_cases hlt : k < L
    · have hlt' : k < s.length := by rw [← HL.out]; exact hlt
      have hat := str_index s k hlt' w
      have hv : Nm.val 0 (s.take k) < 10 ^ 17 := by
        have h := Nm.val_lt (s.take k) 0 hd
        have h2 : (s.take k).length ≤ 17 := by rw [List.length_take]; omega
        have h3 := Nat.pow_le_pow_right (show 0 < 10 by decide) h2
        omega
      have HT := Lib.hid (take_snoc8 s k hlt')
      have HM := Lib.hid (getD_mem8 s k hlt')
      generalize s.getD k 0 = c at *
      have hx0 : 0 ≤ B c ∧ B c ≤ 255 := by have := c.toNat_lt; unfold B; omega
      have HB : Hid (B c = (c.toNat : Int)) := Lib.hid rfl
      generalize B c = x at *
      have HD := Lib.hid hd
      have HS : Hid (Nm.digit c → Nm.val 0 (s.take (k + 1)) = Nm.val 0 (s.take k) * 10 + (c.toNat - 48) ∧ ∀ d ∈ s.take (k + 1), Nm.digit d) := Lib.hid fun hc => by
        rw [HT.out]
        exact ⟨Nm.val_snoc _ _ _, fun d h => by
          rcases List.mem_append.1 h with e | e
          · exact HD.out d e
          · rw [List.mem_singleton.1 e]; exact hc⟩
      have hv0 : (0 : Int) ≤ (Nm.val 0 (s.take k) : Int) := by omega
      have hv1 : (Nm.val 0 (s.take k) : Int) ≤ 100000000000000000 := by omega
      generalize hvv : Nm.val 0 (s.take k) = v at *
      clear hd hv hvv HT
      obtain ⟨hx0, hx1⟩ := hx0
      by_cases h1 : x < 48
      · have HF : Hid (r = (0, false)) := Lib.hid (by
          rw [HR.out]
          unfold numB
          rw [if_neg fun h => by
            have h9 := h c HM.out
            unfold Nm.digit at h9
            have := HB.out
            omega])
        go_wp2_with fail
        go_ret2
        exact ⟨by rw [HF.out]; rfl, rfl⟩
      · by_cases h2 : 57 < x
        · have HF : Hid (r = (0, false)) := Lib.hid (by
            rw [HR.out]
            unfold numB
            rw [if_neg fun h => by
              have h9 := h c HM.out
              unfold Nm.digit at h9
              have := HB.out
              omega])
          go_wp2_with fail
          go_ret2
          exact ⟨by rw [HF.out]; rfl, rfl⟩
        · obtain ⟨e1, e2⟩ := HS.out ⟨by have := HB.out; omega, by have := HB.out; omega⟩
          have E1 : Hid ((Nm.val 0 (s.take (k + 1)) : Int) = 10 * (v : Int) + (x - 48)) := Lib.hid (by have := HB.out; omega)
          have E2 := Lib.hid e2
          have h1' : 48 ≤ x := by omega
          have h2' : x ≤ 57 := by omega
          clear e1 e2 HS
          go_wp2_with fail
          exact ⟨⟨k + 1, by omega, by congr 1, by rw [E1.out], E2.out⟩, by simp [intOf]; omega⟩
    · obtain rfl : k = L := by omega
      have ht : s.take k = s := List.take_of_length_le (by rw [← HL.out]; exact Nat.le_refl _)
      rw [ht] at hd ⊢
      have HF : Hid (r = ((Nm.val 0 s : Int), true)) := Lib.hid (by
        rw [HR.out]
        unfold numB
        rw [if_pos hd])
      clear hd ht
      generalize Nm.val 0 s = v at *
      go_wp2_with fail
      go_ret2
      exact ⟨by rw [HF.out]; rfl, rfl⟩

set_option maxRecDepth 100000 in
theorem kindly1_any (s : List UInt8) (w : World) :
    Calls Tryd.prog 30 #[str s] w fun e w' => e = .returned (.bool (Nm.kindly s)) ∧ w' = w := by
  obtain ⟨r, hr⟩ : ∃ r, r = Nm.kindly s := ⟨_, rfl⟩
  rw [← hr]
  have HR := Lib.hid hr
  clear hr
  obtain ⟨L, hL⟩ : ∃ L, L = s.length := ⟨_, rfl⟩
  have hsz : (⟨s.toArray⟩ : ByteArray).size = L := by rw [hL]; show s.toArray.size = _; simp
  have hsl : s.length = L := hL.symm
  have HL := Lib.hid hL
  clear hL
  by_cases h1 : 1 ≤ L
  · have d1 : decide ((L : Int) < 1) = false := by simp; omega
    by_cases h2 : L ≤ 8
    · have d2 : decide ((8 : Int) < (L : Int)) = false := by simp; omega
      clear hsl
      go_enter Tryd.func30, Tryd.ntmps30
      go_wp2_with fail
      go_loop [3] (fun i => ∃ k : Nat, k ≤ L ∧ i = .int .i64 k ∧ (s.take k).all Nm.letter = true) (fun i => L - (intOf i).toNat)
      case atStart => exact ⟨0, Nat.zero_le _, rfl, by simp⟩
      case round =>
        obtain ⟨k, hk, rfl, hd⟩ := hrel
        by_cases hlt : k < L
        · have hlt' : k < s.length := by rw [← HL.out]; exact hlt
          have hat := str_index s k hlt' w
          have HT := Lib.hid (take_snoc8 s k hlt')
          have HM := Lib.hid (getD_mem8 s k hlt')
          generalize s.getD k 0 = c at *
          have hx0 : 0 ≤ B c ∧ B c ≤ 255 := by have := c.toNat_lt; unfold B; omega
          have HB : Hid (Nm.letter c = true ↔ 97 ≤ B c ∧ B c ≤ 122) := Lib.hid (by
            unfold Nm.letter B
            rw [Bool.and_eq_true, decide_eq_true_eq, decide_eq_true_eq, UInt8.le_iff_toNat_le, UInt8.le_iff_toNat_le]
            simp
            omega)
          generalize B c = x at *
          have HF : Hid (¬ (97 ≤ x ∧ x ≤ 122) → r = false) := Lib.hid fun h => by
            rw [HR.out]
            unfold Nm.kindly
            have h3 : s.all Nm.letter = false := by
              rw [List.all_eq_false]
              exact ⟨c, HM.out, fun e => h (HB.out.1 e)⟩
            rw [h3]
            simp
          have HS : Hid (97 ≤ x ∧ x ≤ 122 → (s.take (k + 1)).all Nm.letter = true) := Lib.hid fun h => by
            rw [HT.out, List.all_append, hd]
            simpa using HB.out.2 h
          clear hd HT HM HB
          obtain ⟨hx0, hx1⟩ := hx0
          by_cases a1 : x < 97
          · go_wp2_with fail
            go_ret
            exact ⟨by rw [HF.out (by omega)]; rfl, rfl⟩
          · by_cases a2 : 122 < x
            · go_wp2_with fail
              go_ret
              exact ⟨by rw [HF.out (by omega)]; rfl, rfl⟩
            · have E := Lib.hid (HS.out ⟨by omega, by omega⟩)
              go_wp2_with fail
              exact ⟨⟨k + 1, by omega, by congr 1, E.out⟩, by simp [intOf]; omega⟩
        · obtain rfl : k = L := by omega
          have ht : s.take k = s := List.take_of_length_le (by rw [← HL.out]; exact Nat.le_refl _)
          have HF : Hid (r = true) := Lib.hid (by
            rw [HR.out]
            unfold Nm.kindly
            rw [ht] at hd
            rw [hd, ← HL.out]
            simp [h1, h2])
          clear hd ht
          go_wp2_with fail
          go_ret
          exact ⟨by rw [HF.out]; rfl, rfl⟩
    · have d2 : decide ((8 : Int) < (L : Int)) = true := by simp; omega
      have HF : r = false := by rw [HR.out]; unfold Nm.kindly; rw [hsl]; simp [h2]
      rw [HF]
      clear hsl HF
      go_enter Tryd.func30, Tryd.ntmps30
      go_wp2_with fail
      go_ret
      exact ⟨rfl, rfl⟩
  · have d1 : decide ((L : Int) < 1) = true := by simp; omega
    have HF : r = false := by rw [HR.out]; unfold Nm.kindly; rw [hsl]; simp [h1]
    rw [HF]
    clear hsl HF
    go_enter Tryd.func30, Tryd.ntmps30
    go_wp2_with fail
    go_ret
    exact ⟨rfl, rfl⟩
end Go.Proofs.YtklmbfmcfjibbaaDoor
