/-
  The statements' own helpers for names: Long, In, the chapter's example.
  The reference's names: numbers, kinds, valid bytes.
  The reference's names: valid names, numbers in digits, segments, objects.
-/
import Derived.Test.YtfdppggdgdnnaaaGreatDoorZ28
import Derived.Test.YtfdppggdgdnnaaaGreatDoorZ1
namespace Go.Proofs.YtfdppggdgdnnaaaGreatDoor
open Go.RowKit Go.Shelf

theorem nLong_any (n b : Int) (w : World) (hb : 0 < b) (hb1 : b ≤ 9223372036854775807) (h1 : -9223372036854775808 ≤ n) (h2 : n ≤ 9223372036854775807) :
    Calls Tryz.prog 10 #[.int .i64 n, .int .i64 b] w fun e w' => e = .returned (.int .i64 (n % b)) ∧ w = w' := by
  have m1 := Int.emod_nonneg n (show b ≠ 0 by omega)
  have m2 := Int.emod_lt_of_pos n hb
  by_cases h0 : 0 ≤ n
  · go_enter Tryz.func10, Tryz.ntmps10
    go_wp2
    go_ret
    exact ⟨rfl, rfl⟩
  · by_cases hm : n % b = 0
    · have t := tmod_nil n b hm
      rw [hm]
      clear hm m1 m2
      go_enter Tryz.func10, Tryz.ntmps10
      go_wp2
      go_ret
      exact ⟨rfl, rfl⟩
    · have t := tmod_up n b hb (by omega) hm
      have e : n % b - b + b = n % b := by omega
      generalize n % b = r at *
      go_enter Tryz.func10, Tryz.ntmps10
      go_wp2
      go_ret
      exact ⟨rfl, rfl⟩
theorem seg7 : Nm.seg 7 = [108, 111, 103, 45, 48, 48, 48, 48, 48, 48, 48, 48, 48, 48, 48, 48, 55] := by decide +kernel
/-- A row of texts, read. -/
structure TxRow (w : World) (A : Option Addr) (c : Nat) (xs : List (List UInt8)) : Prop where
  le : xs.length ≤ c
  max : c ≤ 9223372036854775807
  nil : A = none → c = 0
  get : ∀ j, j < xs.length → ∃ b off, A = some ⟨b, off, none⟩ ∧ w.cell? ⟨b, off + j, none⟩ = some (str (xs.getD j []))
theorem TxRow.below {w w' : World} {A : Option Addr} {c : Nat} {xs : List (List UInt8)} (h : TxRow w A c xs) (hb : Below w.heap.size w w') : TxRow w' A c xs :=
  ⟨h.le, h.max, h.nil, fun j hj => by
    obtain ⟨b, off, e, hc⟩ := h.get j hj
    exact ⟨b, off, e, (hb.cell (p := ⟨b, off + j, none⟩) (World.block_lt_of_cell? w _ hc)).trans hc⟩⟩
theorem take_succ_get (xs : List (List UInt8)) (k : Nat) (h : k < xs.length) : xs.take (k + 1) = xs.take k ++ [xs.getD k []] := by
  rw [List.take_succ_eq_append_getElem h]
  simp [List.getD, h]
end Go.Proofs.YtfdppggdgdnnaaaGreatDoor

namespace Go.Proofs.YtfdppggdgdnnaaaGreatDoor
open Go.RowKit Go.Shelf

theorem str_index (l : List UInt8) (i : Nat) (h : i < l.length) (W : World) : (Instr.index 9 (str l) (.int .i64 (i : Int))).run Tryz.prog W = .ok (.int .u8 (B (l.getD i 0))) W := by
  have hg : (⟨l.toArray⟩ : ByteArray)[i]? = some l[i] := by
    rw [getElem?_pos (⟨l.toArray⟩ : ByteArray) i (by simpa [ByteArray.size] using h)]
    rfl
  simp [Instr.index, run_underlying Tryz.underlying9, asIntOf, hg, B, List.getD, h]
instance (c : UInt8) : Decidable (Nm.digit c) := inferInstanceAs (Decidable (_ ∧ _))
def numB (s : List UInt8) : Int × Bool := if ∀ c ∈ s, Nm.digit c then ((Nm.val 0 s : Int), true) else (0, false)
theorem take_snoc8 (s : List UInt8) (k : Nat) (h : k < s.length) : s.take (k + 1) = s.take k ++ [s.getD k 0] := by
  rw [List.take_succ_eq_append_getElem h]
  simp [List.getD, h]
theorem getD_mem8 (s : List UInt8) (k : Nat) (h : k < s.length) : s.getD k 0 ∈ s := by
  rw [show s.getD k 0 = s[k] from by simp [List.getD, h]]
  exact List.getElem_mem _

theorem right1_any (b : Int) (w : World) : Calls Tryz.prog 70 #[.int .i64 b] w fun e w' => e = .returned (.bool (rightB b)) ∧ w' = w := by
  by_cases h1 : 0 ≤ b
  · have d1 : decide (0 ≤ b) = true := by simp [h1]
    by_cases h2 : b ≤ 1099511627776
    · have d2 : decide (b ≤ 1099511627776) = true := by simp [h2]
      have hr : rightB b = true := by simp [rightB, Nm.right, h1, h2]
      rw [hr]
      go_enter Tryz.func70, Tryz.ntmps70
      go_wp2_with fail
      go_ret
      exact ⟨rfl, rfl⟩
    · have d2 : decide (b ≤ 1099511627776) = false := by simp; omega
      have hr : rightB b = false := decide_eq_false fun h => by unfold Nm.right at h; omega
      rw [hr]
      go_enter Tryz.func70, Tryz.ntmps70
      go_wp2_with fail
      go_ret
      exact ⟨rfl, rfl⟩
  · have d1 : decide (0 ≤ b) = false := by simp; omega
    have hr : rightB b = false := decide_eq_false fun h => by unfold Nm.right at h; omega
    rw [hr]
    go_enter Tryz.func70, Tryz.ntmps70
    go_wp2_with fail
    go_ret
    exact ⟨rfl, rfl⟩

end Go.Proofs.YtfdppggdgdnnaaaGreatDoor

namespace Go.Proofs.YtfdppggdgdnnaaaGreatDoor
open Go.RowKit Go.Shelf

theorem okB_iff (c : UInt8) : okB c = true ↔ (97 ≤ B c ∧ B c ≤ 122) ∨ (48 ≤ B c ∧ B c ≤ 57) ∨ B c = 46 ∨ B c = 45 ∨ B c = 95 := by
  unfold okB B
  simp [UInt8.le_iff_toNat_le, ← UInt8.toNat_inj]
  omega
set_option maxRecDepth 100000 in
theorem cut_digit (v : Nat) (W : World) : (Instr.slice 9 (.string ⟨#[48, 49, 50, 51, 52, 53, 54, 55, 56, 57]⟩) (some (.int .i64 ((v : Int) % 10))) (some (.int .i64 ((v : Int) % 10 + 1))) none).run Tryz.prog W = .ok (str [Nm.dc v]) W := by
  have e : (v : Int) % 10 = ((v % 10 : Nat) : Int) := by omega
  have e2 : Nm.dc v = Nm.dc (v % 10) := by unfold Nm.dc; rw [Nat.mod_mod]
  rw [e, e2]
  have h : v % 10 < 10 := Nat.mod_lt _ (by decide)
  generalize v % 10 = j at *
  clear e e2
  obtain rfl | rfl | rfl | rfl | rfl | rfl | rfl | rfl | rfl | rfl : j = 0 ∨ j = 1 ∨ j = 2 ∨ j = 3 ∨ j = 4 ∨ j = 5 ∨ j = 6 ∨ j = 7 ∨ j = 8 ∨ j = 9 := by omega
  all_goals
    clear h
    first | rfl | (simp [Instr.slice, run_underlying Tryz.underlying9]; done)
set_option maxRecDepth 100000 in
theorem digits1_any (K n : Nat) (m : Int) (hm : m = (K : Int)) (w : World) (hK : K ≤ 18) (hn : n ≤ 9223372036854775807) :
    Calls Tryz.prog 90 #[.int .i64 (n : Int), .int .i64 m] w fun e w' => e = .returned (str (Nm.dgs K n)) ∧ w' = w := by
  subst hm
  go_enter Tryz.func90, Tryz.ntmps90
  go_wp2_with fail
  go_loop [0, 5, 6] (fun v s i => ∃ k : Nat, k ≤ K ∧ i = .int .i64 k ∧ s = str (Nm.dgs k n) ∧ v = .int .i64 (n / 10 ^ k : Nat)) (fun _ _ i => K - (intOf i).toNat)
  case atStart => exact ⟨0, Nat.zero_le _, rfl, rfl, by simp⟩
  case round =>
    obtain ⟨k, hk, rfl, rfl, rfl⟩ := hrel
    by_cases hlt : k < K
    · have hv : n / 10 ^ k ≤ n := Nat.div_le_self _ _
      have hf := Nm.dgs_front k n
      have hs : n / 10 ^ (k + 1) = n / 10 ^ k / 10 := by rw [Nat.pow_succ, Nat.div_div_eq_div_mul]
      have hl : (Nm.dgs k n).length ≤ 18 := by rw [Nm.dgs_length]; omega
      have HF := Lib.hid hf
      have HS := Lib.hid hs
      generalize n / 10 ^ k = v at *
      generalize Nm.dgs k n = d at *
      have hv0 : (0 : Int) ≤ (v : Int) := by omega
      have hv1 : (v : Int) ≤ 9223372036854775807 := by omega
      have hcut := cut_digit v w
      clear hf hs hv
      go_wp2_with fail
      refine ⟨⟨k + 1, by omega, by congr 1, ?_, by rw [HS.out]; congr 1⟩, by simp [intOf]; omega⟩
      rw [HF.out]
      congr 1
    · obtain rfl : k = K := by omega
      have hl : (Nm.dgs k n).length ≤ 18 := by rw [Nm.dgs_length]; omega
      generalize n / 10 ^ k = v at *
      generalize hd : Nm.dgs k n = d at *
      have HD := Lib.hid hd
      clear hd
      go_wp2_with fail
      go_ret
      exact ⟨by rw [HD.out]; rfl, rfl⟩

set_option maxRecDepth 100000 in
theorem segment1_any (b : Int) (w : World) : Calls Tryz.prog 42 #[.int .i64 b] w fun e w' => e = .returned (str (Nm.seg b)) ∧ w' = w := by
  by_cases hr : Nm.right b
  · have hb := hr
    unfold Nm.right at hb
    obtain ⟨n, rfl⟩ := Int.eq_ofNat_of_zero_le hb.1
    have HD := Lib.hid (digits1_any 13 n 13 rfl w (by omega) (by omega))
    have HR := Lib.hid (right1_any (n : Int) w)
    rw [show rightB (n : Int) = true from decide_eq_true hr] at HR
    have hs : Nm.seg (n : Int) = Nm.log ++ Nm.dgs 13 n := by unfold Nm.seg; rw [if_pos hr]; rfl
    have HS := Lib.hid hs
    generalize Nm.seg (n : Int) = r at *
    have hdl : (Nm.dgs 13 n).length ≤ 13 := by rw [Nm.dgs_length]; exact Nat.le_refl _
    generalize Nm.dgs 13 n = d at *
    clear hb hr hs
    go_enter Tryz.func42, Tryz.ntmps42
    go_wp2_with (first
      | (go_at_call 70; refine HR.out.mono ?_; rintro e w1 ⟨rfl, rfl⟩)
      | (go_at_call 90; refine HD.out.mono ?_; rintro e w2 ⟨rfl, rfl⟩)
      | fail)
    go_ret
    refine ⟨?_, rfl⟩
    rw [HS.out]
    congr 2
  · have HR := Lib.hid (right1_any b w)
    rw [show rightB b = false from decide_eq_false hr] at HR
    have hs : Nm.seg b = [] := by unfold Nm.seg; rw [if_neg hr]
    rw [hs]
    clear hr hs
    go_enter Tryz.func42, Tryz.ntmps42
    go_wp2_with (first
      | (go_at_call 70; refine HR.out.mono ?_; rintro e w1 ⟨rfl, rfl⟩)
      | fail)
    go_ret
    exact ⟨rfl, rfl⟩
end Go.Proofs.YtfdppggdgdnnaaaGreatDoor
