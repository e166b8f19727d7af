/-
  The statements' own helpers for names: Long, In, the chapter's example.
-/
import Derived.Test.YtnnobfdpbdkceaaDoorNsS
import Derived.Test.YtnnobfdpbdkceaaDoorHSame
namespace Go.Proofs.YtnnobfdpbdkceaaDoor
open Go.RowKit Go.Shelf

theorem long_any (n b : Int) (w : World) (hb : 0 < b) (hb1 : b ≤ 9223372036854775807) (h1 : -9223372036854775808 ≤ n) (h2 : n ≤ 9223372036854775807) :
    Calls Tryd.prog 12 #[.int .i64 n, .int .i64 b] w fun e w' => e = .returned (.int .i64 (n % b)) ∧ w = w' := by
  have m1 := Int.emod_nonneg n (show b ≠ 0 by omega)
  have m2 := Int.emod_lt_of_pos n hb
  by_cases h0 : 0 ≤ n
  · go_enter Tryd.func12, Tryd.ntmps12
    go_wp2
    go_ret
    exact ⟨rfl, rfl⟩
  · by_cases hm : n % b = 0
    · have t := tmod_nil n b hm
      rw [hm]
      clear hm m1 m2
      go_enter Tryd.func12, Tryd.ntmps12
      go_wp2
      go_ret
      exact ⟨rfl, rfl⟩
    · have t := tmod_up n b hb (by omega) hm
      have e : n % b - b + b = n % b := by omega
      generalize n % b = r at *
      go_enter Tryd.func12, Tryd.ntmps12
      go_wp2
      go_ret
      exact ⟨rfl, rfl⟩
theorem seg7 : Nm.seg 7 = [108, 111, 103, 45, 48, 48, 48, 48, 48, 48, 48, 48, 48, 48, 48, 48, 55] := by decide +kernel
theorem first_name (w : World) (ht : PowTab w) : Calls Tryd.prog 5 #[] w fun e w' => e = .returned (.bool true) ∧ Below w.heap.size w w' := by
  have HS := Lib.hid (segment_any 7 w ht)
  rw [seg7] at HS
  clear ht
  go_enter Tryd.func5, Tryd.ntmps5
  go_wp2_with (first
    | (go_at_call 10; refine HS.out.mono ?_; rintro e w2 ⟨rfl, hb2⟩; have HB2 := Lib.hid hb2; clear hb2)
    | fail)
  go_ret
  exact ⟨rfl, HB2.out⟩

/-- A row of texts, read. -/
structure TxRow (w : World) (A : Option Addr) (c : Nat) (xs : List (List UInt8)) : Prop where
  le : xs.length ≤ c
  max : c ≤ 9223372036854775807
  nil : A = none → c = 0
  get : ∀ j, j < xs.length → ∃ b off, A = some ⟨b, off, none⟩ ∧ w.cell? ⟨b, off + j, none⟩ = some (str (xs.getD j []))
theorem TxRow.below {w w' : World} {A : Option Addr} {c : Nat} {xs : List (List UInt8)} (h : TxRow w A c xs) (hb : Below w.heap.size w w') : TxRow w' A c xs :=
  ⟨h.le, h.max, h.nil, fun j hj => by
    obtain ⟨b, off, e, hc⟩ := h.get j hj
    exact ⟨b, off, e, (hb.cell (p := ⟨b, off + j, none⟩) (World.block_lt_of_cell? w _ hc)).trans hc⟩⟩
theorem take_succ_get (xs : List (List UInt8)) (k : Nat) (h : k < xs.length) : xs.take (k + 1) = xs.take k ++ [xs.getD k []] := by
  rw [List.take_succ_eq_append_getElem h]
  simp [List.getD, h]
set_option maxRecDepth 100000 in
theorem in_any (A : Option Addr) (c n : Nat) (xs : List (List UInt8)) (s : List UInt8) (w : World) (h : TxRow w A c xs) (hn : xs.length = n) (hb : n ≤ 1000000) :
    Calls Tryd.prog 8 #[.slice A n c, str s] w fun e w' => e = .returned (.bool (decide (s ∈ xs))) ∧ w' = w := by
  have HG := Lib.hid h
  have HN := Lib.hid hn
  obtain ⟨r, hr⟩ : ∃ r, r = decide (s ∈ xs) := ⟨_, rfl⟩
  have HR := Lib.hid hr
  rw [← hr]
  have hA := h.nil
  have hle := h.le
  have hmx := h.max
  clear h hr
  subst hn
  generalize hL : xs.length = L at *
  have HL := Lib.hid hL
  clear hL HN
  go_enter Tryd.func8, Tryd.ntmps8
  go_wp2
  go_loop [5] (fun i => ∃ k : Nat, k ≤ L ∧ i = .int .i64 k ∧ s ∉ xs.take k) (fun i => L - (intOf i).toNat)
  case atStart => exact ⟨0, Nat.zero_le _, rfl, by simp⟩
  case round =>
    obtain ⟨k, hk, rfl, hs⟩ := hrel
    by_cases hlt : k < L
    · obtain ⟨b, off, rfl, hc⟩ := HG.out.get k (by rw [HL.out]; exact hlt)
      have hts := take_succ_get xs k (by rw [HL.out]; exact hlt)
      have hm : xs.getD k [] ∈ xs := by
        rw [show xs.getD k [] = xs[k]'(by rw [HL.out]; exact hlt) from by simp [List.getD, show k < xs.length by rw [HL.out]; exact hlt]]
        exact List.getElem_mem _
      generalize xs.getD k [] = x at *
      by_cases he : x = s
      · have hb1 : (x == s) = true := beq_iff_eq.2 he
        have HT : Hid (r = true) := Lib.hid (by rw [HR.out, decide_eq_true_eq, ← he]; exact hm)
        subst he
        clear hm hts hs
        go_wp2
        go_ret
        exact ⟨by rw [HT.out]; rfl, rfl⟩
      · have hb1 : (x == s) = false := beq_eq_false_iff_ne.2 he
        have HS : Hid (s ∉ xs.take (k + 1)) := Lib.hid (by
          rw [hts, List.mem_append]
          rintro (e | e)
          · exact hs e
          · exact he (List.mem_singleton.1 e).symm)
        clear hm hts hs he
        go_wp2
        go_round
        case rel => exact ⟨k + 1, by omega, by go_num, HS.out⟩
        case measure => simp [intOf]; omega
    · obtain rfl : k = L := by omega
      have HF : Hid (r = false) := Lib.hid (by
        rw [HR.out, decide_eq_false_iff_not]
        rwa [List.take_of_length_le (by rw [HL.out]; exact Nat.le_refl _)] at hs)
      clear hs
      go_wp2
      go_ret
      exact ⟨by rw [HF.out]; rfl, rfl⟩
end Go.Proofs.YtnnobfdpbdkceaaDoor
