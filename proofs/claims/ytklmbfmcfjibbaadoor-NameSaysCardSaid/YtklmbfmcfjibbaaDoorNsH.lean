/-
  The reference's names: valid names, numbers in digits, segments, objects.
-/
import Derived.Test.YtklmbfmcfjibbaaDoorNsG
namespace Go.Proofs.YtklmbfmcfjibbaaDoor
open Go.RowKit Go.Shelf

theorem okB_iff (c : UInt8) : okB c = true ↔ (97 ≤ B c ∧ B c ≤ 122) ∨ (48 ≤ B c ∧ B c ≤ 57) ∨ B c = 46 ∨ B c = 45 ∨ B c = 95 := by
  unfold okB B
  simp [UInt8.le_iff_toNat_le, ← UInt8.toNat_inj]
  omega
set_option maxRecDepth 100000 in
set_option maxHeartbeats 1000000 in
theorem valid1_any (s : List UInt8) (w : World) :
    Calls Tryd.prog 13 #[str s] w fun e w' => e = .returned (.bool (validN s)) ∧ w' = w := by
  obtain ⟨r, hr⟩ : ∃ r, r = validN s := ⟨_, rfl⟩
  rw [← hr]
  have HR := Lib.hid hr
  clear hr
  obtain ⟨L, hL⟩ : ∃ L, L = s.length := ⟨_, rfl⟩
  have hsz : (⟨s.toArray⟩ : ByteArray).size = L := by rw [hL]; show s.toArray.size = _; simp
  have hsl : s.length = L := hL.symm
  have HL := Lib.hid hL
  clear hL
  by_cases h1 : 1 ≤ L
  · have d1 : decide ((L : Int) < 1) = false := by simp; omega
    by_cases h2 : L ≤ 64
    · have d2 : decide ((64 : Int) < (L : Int)) = false := by simp; omega
      have hne : s ≠ [] := fun e => by rw [e] at hsl; simp at hsl; omega
      have HNE := Lib.hid hne
      clear hsl hne
      go_enter Tryd.func13, Tryd.ntmps13
      go_wp2_with fail
      go_loop [3] (fun i => ∃ k : Nat, k ≤ L ∧ i = .int .i64 k ∧ (s.take k).all okB = true) (fun i => L - (intOf i).toNat)
      case atStart => exact ⟨0, Nat.zero_le _, rfl, by simp⟩
      case round =>
        obtain ⟨k, hk, rfl, hd⟩ := hrel
        by_cases hlt : k < L
        · have hlt' : k < s.length := by rw [← HL.out]; exact hlt
          have hat := str_index s k hlt' w
          have HT := Lib.hid (take_snoc8 s k hlt')
          have HM := Lib.hid (getD_mem8 s k hlt')
          generalize s.getD k 0 = c at *
          have hx0 : 0 ≤ B c ∧ B c ≤ 255 := by have := c.toNat_lt; unfold B; omega
          have HB := Lib.hid (okB_iff c)
          generalize B c = x at *
          have HF : Hid (¬ ((97 ≤ x ∧ x ≤ 122) ∨ (48 ≤ x ∧ x ≤ 57) ∨ x = 46 ∨ x = 45 ∨ x = 95) → r = false) := Lib.hid fun h => by
            rw [HR.out]
            unfold validN
            have h3 : s.all okB = false := by
              rw [List.all_eq_false]
              exact ⟨c, HM.out, fun e => h (HB.out.1 e)⟩
            rw [h3]
            simp
          have HS : Hid ((97 ≤ x ∧ x ≤ 122) ∨ (48 ≤ x ∧ x ≤ 57) ∨ x = 46 ∨ x = 45 ∨ x = 95 → (s.take (k + 1)).all okB = true) := Lib.hid fun h => by
            rw [HT.out, List.all_append, hd]
            simpa using HB.out.2 h
          clear hd HT HM HB
          obtain ⟨hx0, hx1⟩ := hx0
          by_cases b1 : 97 ≤ x ∧ x ≤ 122
          · obtain ⟨a1, a2⟩ := b1
            have E := Lib.hid (HS.out (.inl ⟨a1, a2⟩))
            go_wp2_with fail
            exact ⟨⟨k + 1, by omega, by congr 1, E.out⟩, by simp [intOf]; omega⟩
          · by_cases b2 : 48 ≤ x ∧ x ≤ 57
            · obtain ⟨a1, a2⟩ := b2
              have a3 : x < 97 := by omega
              have E := Lib.hid (HS.out (.inr (.inl ⟨a1, a2⟩)))
              clear b1
              go_wp2_with fail
              exact ⟨⟨k + 1, by omega, by congr 1, E.out⟩, by simp [intOf]; omega⟩
            · by_cases b3 : x = 46
              · have E := Lib.hid (HS.out (.inr (.inr (.inl b3))))
                subst b3
                clear b1 b2
                go_wp2_with fail
                exact ⟨⟨k + 1, by omega, by congr 1, E.out⟩, by simp [intOf]; omega⟩
              · by_cases b4 : x = 45
                · have E := Lib.hid (HS.out (.inr (.inr (.inr (.inl b4)))))
                  subst b4
                  clear b1 b2 b3
                  go_wp2_with fail
                  exact ⟨⟨k + 1, by omega, by congr 1, E.out⟩, by simp [intOf]; omega⟩
                · by_cases b5 : x = 95
                  · have E := Lib.hid (HS.out (.inr (.inr (.inr (.inr b5)))))
                    subst b5
                    clear b1 b2 b3 b4
                    go_wp2_with fail
                    exact ⟨⟨k + 1, by omega, by congr 1, E.out⟩, by simp [intOf]; omega⟩
                  · have E := Lib.hid (HF.out (by omega))
                    have e3 : (x != 46) = true := by simp; omega
                    have e4 : (x != 45) = true := by simp; omega
                    have e5 : (x != 95) = true := by simp; omega
                    by_cases c1 : x < 48
                    · have c2 : x < 97 := by omega
                      clear b1 b2 b3 b4 b5
                      go_wp2_with fail
                      go_ret
                      exact ⟨by rw [E.out]; rfl, rfl⟩
                    · have c1' : 48 ≤ x := by omega
                      have c2 : 57 < x := by omega
                      by_cases c3 : x < 97
                      · clear b1 b2 b3 b4 b5
                        go_wp2_with fail
                        go_ret
                        exact ⟨by rw [E.out]; rfl, rfl⟩
                      · have c4 : 122 < x := by omega
                        clear b1 b2 b3 b4 b5
                        go_wp2_with fail
                        go_ret
                        exact ⟨by rw [E.out]; rfl, rfl⟩
        · obtain rfl : k = L := by omega
          have ht : s.take k = s := List.take_of_length_le (by rw [← HL.out]; exact Nat.le_refl _)
          have HF : Hid (r = true) := Lib.hid (by
            rw [HR.out]
            unfold validN
            rw [ht] at hd
            rw [hd, ← HL.out]
            simp [HNE.out, h2])
          clear hd ht
          go_wp2_with fail
          go_ret
          exact ⟨by rw [HF.out]; rfl, rfl⟩
    · have d2 : decide ((64 : Int) < (L : Int)) = true := by simp; omega
      have HF : r = false := by rw [HR.out]; unfold validN; rw [hsl]; simp [h2]
      rw [HF]
      clear hsl HF
      go_enter Tryd.func13, Tryd.ntmps13
      go_wp2_with fail
      go_ret
      exact ⟨rfl, rfl⟩
  · have d1 : decide ((L : Int) < 1) = true := by simp; omega
    have hnil : s = [] := List.length_eq_zero_iff.1 (by omega)
    have HF : r = false := by rw [HR.out, hnil]; rfl
    rw [HF]
    clear hsl HF hnil
    go_enter Tryd.func13, Tryd.ntmps13
    go_wp2_with fail
    go_ret
    exact ⟨rfl, rfl⟩

set_option maxRecDepth 100000 in
theorem cut_digit (v : Nat) (W : World) : (Instr.slice 9 (.string ⟨#[48, 49, 50, 51, 52, 53, 54, 55, 56, 57]⟩) (some (.int .i64 ((v : Int) % 10))) (some (.int .i64 ((v : Int) % 10 + 1))) none).run Tryd.prog W = .ok (str [Nm.dc v]) W := by
  have e : (v : Int) % 10 = ((v % 10 : Nat) : Int) := by omega
  have e2 : Nm.dc v = Nm.dc (v % 10) := by unfold Nm.dc; rw [Nat.mod_mod]
  rw [e, e2]
  have h : v % 10 < 10 := Nat.mod_lt _ (by decide)
  generalize v % 10 = j at *
  clear e e2
  obtain rfl | rfl | rfl | rfl | rfl | rfl | rfl | rfl | rfl | rfl : j = 0 ∨ j = 1 ∨ j = 2 ∨ j = 3 ∨ j = 4 ∨ j = 5 ∨ j = 6 ∨ j = 7 ∨ j = 8 ∨ j = 9 := by omega
  all_goals
    clear h
    first | rfl | (simp [Instr.slice, run_underlying Tryd.underlying9]; done)
set_option maxRecDepth 100000 in
theorem digits1_any (K n : Nat) (m : Int) (hm : m = (K : Int)) (w : World) (hK : K ≤ 18) (hn : n ≤ 9223372036854775807) :
    Calls Tryd.prog 34 #[.int .i64 (n : Int), .int .i64 m] w fun e w' => e = .returned (str (Nm.dgs K n)) ∧ w' = w := by
  subst hm
  go_enter Tryd.func34, Tryd.ntmps34
  go_wp2_with fail
  go_loop [0, 5, 6] (fun v s i => ∃ k : Nat, k ≤ K ∧ i = .int .i64 k ∧ s = str (Nm.dgs k n) ∧ v = .int .i64 (n / 10 ^ k : Nat)) (fun _ _ i => K - (intOf i).toNat)
  case atStart => exact ⟨0, Nat.zero_le _, rfl, rfl, by simp⟩
  case round =>
    obtain ⟨k, hk, rfl, rfl, rfl⟩ := hrel
    by_cases hlt : k < K
    · have hv : n / 10 ^ k ≤ n := Nat.div_le_self _ _
      have hf := Nm.dgs_front k n
      have hs : n / 10 ^ (k + 1) = n / 10 ^ k / 10 := by rw [Nat.pow_succ, Nat.div_div_eq_div_mul]
      have hl : (Nm.dgs k n).length ≤ 18 := by rw [Nm.dgs_length]; omega
      have HF := Lib.hid hf
      have HS := Lib.hid hs
      generalize n / 10 ^ k = v at *
      generalize Nm.dgs k n = d at *
      have hv0 : (0 : Int) ≤ (v : Int) := by omega
      have hv1 : (v : Int) ≤ 9223372036854775807 := by omega
      have hcut := cut_digit v w
      clear hf hs hv
      go_wp2_with fail
      refine ⟨⟨k + 1, by omega, by congr 1, ?_, by rw [HS.out]; congr 1⟩, by simp [intOf]; omega⟩
      rw [HF.out]
      congr 1
    · obtain rfl : k = K := by omega
      have hl : (Nm.dgs k n).length ≤ 18 := by rw [Nm.dgs_length]; omega
      generalize n / 10 ^ k = v at *
      generalize hd : Nm.dgs k n = d at *
      have HD := Lib.hid hd
      clear hd
      go_wp2_with fail
      go_ret
      exact ⟨by rw [HD.out]; rfl, rfl⟩

set_option maxRecDepth 100000 in
theorem segment1_any (b : Int) (w : World) : Calls Tryd.prog 15 #[.int .i64 b] w fun e w' => e = .returned (str (Nm.seg b)) ∧ w' = w := by
  by_cases hr : Nm.right b
  · have hb := hr
    unfold Nm.right at hb
    obtain ⟨n, rfl⟩ := Int.eq_ofNat_of_zero_le hb.1
    have HD := Lib.hid (digits1_any 13 n 13 rfl w (by omega) (by omega))
    have HR := Lib.hid (right1_any (n : Int) w)
    rw [show rightB (n : Int) = true from decide_eq_true hr] at HR
    have hs : Nm.seg (n : Int) = Nm.log ++ Nm.dgs 13 n := by unfold Nm.seg; rw [if_pos hr]; rfl
    have HS := Lib.hid hs
    generalize Nm.seg (n : Int) = r at *
    have hdl : (Nm.dgs 13 n).length ≤ 13 := by rw [Nm.dgs_length]; exact Nat.le_refl _
    generalize Nm.dgs 13 n = d at *
    clear hb hr hs
    go_enter Tryd.func15, Tryd.ntmps15
    go_wp2_with (first
      | (go_at_call 27; refine HR.out.mono ?_; rintro e w1 ⟨rfl, rfl⟩)
      | (go_at_call 34; refine HD.out.mono ?_; rintro e w2 ⟨rfl, rfl⟩)
      | fail)
    go_ret
    refine ⟨?_, rfl⟩
    rw [HS.out]
    congr 2
  · have HR := Lib.hid (right1_any b w)
    rw [show rightB b = false from decide_eq_false hr] at HR
    have hs : Nm.seg b = [] := by unfold Nm.seg; rw [if_neg hr]
    rw [hs]
    clear hr hs
    go_enter Tryd.func15, Tryd.ntmps15
    go_wp2_with (first
      | (go_at_call 27; refine HR.out.mono ?_; rintro e w1 ⟨rfl, rfl⟩)
      | fail)
    go_ret
    exact ⟨rfl, rfl⟩
end Go.Proofs.YtklmbfmcfjibbaaDoor
