/-
  Package name: Under; the reference's Before and Rising; plain laws of them.
-/
import Derived.Test.YtnnobfdpbdkceaaDoorNsG
import Derived.Test.YtnnobfdpbdkceaaDoorTxO
import Derived.Test.YtnnobfdpbdkceaaDoorNmR
import Derived.Sort.OwnSorted
import Derived.Shelf.Slices.CompactS
import Derived.Shelf.Slices.In.SortNone
import Derived.Shelf.Sort.Plain
namespace Go.Proofs.YtnnobfdpbdkceaaDoor.Nm

theorem lt_apart (a b : Tx) (k : Nat) (ha : k < a.length) (hb : k < b.length) (h : a.take k = b.take k) (hne : a.getD k 0 ≠ b.getD k 0) : a < b ↔ a.getD k 0 < b.getD k 0 := by
  induction k generalizing a b with
  | zero =>
    match a, b, ha, hb with
    | x :: a, y :: b, _, _ =>
      simp only [List.getD_cons_zero] at hne ⊢
      rw [List.cons_lt_cons_iff]
      constructor
      · rintro (e | ⟨e, _⟩)
        · exact e
        · exact absurd e hne
      · exact fun e => .inl e
  | succ k ih =>
    match a, b, ha, hb with
    | x :: a, y :: b, ha, hb =>
      simp only [List.take_succ_cons, List.cons.injEq] at h
      obtain ⟨rfl, h⟩ := h
      simp only [List.getD_cons_succ] at hne ⊢
      rw [← ih a b (by simpa using ha) (by simpa using hb) h hne, List.cons_lt_cons_iff]
      constructor
      · rintro (e | ⟨_, e⟩)
        · exact absurd e (by simp)
        · exact e
      · exact fun e => .inr ⟨rfl, e⟩
theorem lt_ended (a b : Tx) (k : Nat) (ha : k ≤ a.length) (hb : k ≤ b.length) (hk : k = a.length ∨ k = b.length) (h : a.take k = b.take k) : a < b ↔ a.length < b.length := by
  induction k generalizing a b with
  | zero =>
    match a, b, hk with
    | [], [], _ => simp
    | [], y :: b, _ => simp
    | x :: a, [], _ => simp
    | x :: a, y :: b, hk => simp at hk
  | succ k ih =>
    match a, b, ha, hb with
    | x :: a, y :: b, ha, hb =>
      simp only [List.take_succ_cons, List.cons.injEq] at h
      obtain ⟨rfl, h⟩ := h
      rw [List.cons_lt_cons_iff, List.length_cons, List.length_cons, Nat.add_lt_add_iff_right, ← ih a b (by simpa using ha) (by simpa using hb) (by simpa using hk) h]
      constructor
      · rintro (e | ⟨_, e⟩)
        · exact absurd e (by simp)
        · exact e
      · exact fun e => .inr ⟨rfl, e⟩
/-- Where a text is put in place. -/
theorem ins_at (x : Tx) : ∀ (k : Nat) (l : List Tx), k ≤ l.length → (∀ j, j < k → l.getD j [] < x) → (k < l.length → ¬ l.getD k [] < x ∧ l.getD k [] ≠ x) → ins x l = l.take k ++ [x] ++ l.drop k
  | 0, [], _, _, _ => rfl
  | 0, y :: l, _, _, h => by
    obtain ⟨h1, h2⟩ := h (by simp)
    simp only [List.getD_cons_zero] at h1 h2
    unfold ins
    rw [if_neg h1, if_neg h2]
    rfl
  | k + 1, [], hk, _, _ => by simp at hk
  | k + 1, y :: l, hk, hl, h => by
    have h0 := hl 0 (by omega)
    simp only [List.getD_cons_zero] at h0
    unfold ins
    rw [if_pos h0, ins_at x k l (by simpa using hk) (fun j hj => by simpa using hl (j + 1) (by omega)) (fun hk => by simpa using h (by simpa using hk))]
    rfl
theorem ins_there (x : Tx) : ∀ (k : Nat) (l : List Tx), k < l.length → (∀ j, j < k → l.getD j [] < x) → l.getD k [] = x → ins x l = l
  | _, [], hk, _, _ => by simp at hk
  | 0, y :: l, _, _, h => by
    simp only [List.getD_cons_zero] at h
    subst h
    unfold ins
    rw [if_neg (List.lt_irrefl _), if_pos rfl]
  | k + 1, y :: l, hk, hl, h => by
    have h0 := hl 0 (by omega)
    simp only [List.getD_cons_zero] at h0
    unfold ins
    rw [if_pos h0, ins_there x k l (by simpa using hk) (fun j hj => by simpa using hl (j + 1) (by omega)) (by simpa using h)]
theorem ins_len (x : Tx) : ∀ l, (ins x l).length ≤ l.length + 1
  | [] => by simp [ins]
  | y :: l => by
    unfold ins
    have := ins_len x l
    split
    · simp; omega
    · split <;> simp
theorem rising_snoc (l : List Tx) (x : Tx) : rising (l ++ [x]) = ins x (rising l) := by simp [rising]
theorem rising_len (l : List Tx) : (rising l).length ≤ l.length := by
  have key : ∀ (l o : List Tx), (l.foldl (fun o x => ins x o) o).length ≤ o.length + l.length := by
    intro l
    induction l with
    | nil => intro o; simp
    | cons x l ih =>
      intro o
      have h1 := ih (ins x o)
      have h2 := ins_len x o
      simp only [List.foldl_cons, List.length_cons]
      omega
  have := key l []
  simpa [rising] using this
end Go.Proofs.YtnnobfdpbdkceaaDoor.Nm

namespace Go.Proofs.YtnnobfdpbdkceaaDoor
open Go.RowKit Go.Sort Go.Shelf

set_option maxRecDepth 100000 in
theorem before_any (a b : List UInt8) (w : World) (ha : a.length ≤ 1000000) (hb : b.length ≤ 1000000) :
    Calls Tryd.prog 17 #[str a, str b] w fun e w' => e = .returned (.bool (decide (a < b))) ∧ ∃ q, w' = w.drewN q := by
  obtain ⟨r, hr⟩ : ∃ r, r = decide (a < b) := ⟨_, rfl⟩
  rw [← hr]
  have HR := Lib.hid hr
  clear hr
  obtain ⟨L, hL⟩ : ∃ L, L = a.length := ⟨_, rfl⟩
  obtain ⟨M, hM⟩ : ∃ M, M = b.length := ⟨_, rfl⟩
  have hsa : (⟨a.toArray⟩ : ByteArray).size = L := by rw [hL]; show a.toArray.size = _; simp
  have hsb : (⟨b.toArray⟩ : ByteArray).size = M := by rw [hM]; show b.toArray.size = _; simp
  have HL := Lib.hid hL
  have HM := Lib.hid hM
  have hl : L ≤ 1000000 := by omega
  have hm : M ≤ 1000000 := by omega
  clear hL hM ha hb
  go_enter Tryd.func17, Tryd.ntmps17
  go_wp2_with fail
  go_loopw [5] (fun i wr => ∃ k : Nat, k ≤ L ∧ k ≤ M ∧ i = .int .i64 k ∧ a.take k = b.take k ∧ ∃ q, wr = w.drewN q) (fun i _ => L - (intOf i).toNat)
  case atStart => exact ⟨0, Nat.zero_le _, Nat.zero_le _, rfl, by simp, 0, rfl⟩
  case round =>
    obtain ⟨k, hk, hk2, rfl, htk, q, rfl⟩ := hrel
    have HTK := Lib.hid htk
    clear htk
    by_cases h1 : k < L
    · by_cases h2 : k < M
      · have h1' : k < a.length := by rw [← HL.out]; exact h1
        have h2' : k < b.length := by rw [← HM.out]; exact h2
        have hca := fun W => str_index a k h1' W
        have hcb := fun W => str_index b k h2' W
        have HA := Lib.hid (take_snoc8 a k h1')
        have HB := Lib.hid (take_snoc8 b k h2')
        have HAP := Lib.hid (Nm.lt_apart a b k h1' h2' HTK.out)
        generalize a.getD k 0 = x at *
        generalize b.getD k 0 = y at *
        clear h1' h2'
        by_cases hxy : x = y
        · subst hxy
          go_wp2_with fail
          go_quiet (fail)
          go_wp2_with fail
          go_roundw
          case rel => exact ⟨k + 1, by omega, by omega, by go_num, by rw [HA.out, HB.out, HTK.out], _, rfl⟩
          case measure => simp [intOf]; omega
        · have hne : (B x == B y) = false := by
            rw [beq_eq_false_iff_ne]; intro e; exact hxy (B_inj e)
          have HD : Hid (decide (B x < B y) = r) := Lib.hid (by
            rw [HR.out]
            have := HAP.out hxy
            by_cases hlt : x < y
            · rw [decide_eq_true (this.2 hlt), decide_eq_true_eq]
              have := UInt8.lt_iff_toNat_lt.1 hlt
              unfold B; omega
            · rw [decide_eq_false (fun h => hlt (this.1 h)), decide_eq_false_iff_not]
              intro h
              apply hlt
              rw [UInt8.lt_iff_toNat_lt]
              unfold B at h; omega)
          clear hxy
          generalize B x = bx at *
          generalize B y = by' at *
          go_wp2_with fail
          go_quiet (fail)
          go_wp2_with fail
          go_quiet (fail)
          go_wp2_with fail
          go_ret
          exact ⟨by rw [HD.out]; rfl, _, by first | rfl | (simp only [World.drewN_drewN]; rfl) | exact World.drewN_drewN _ _ _⟩
      · have HD : Hid (decide (L < M) = r) := Lib.hid (by
          rw [HR.out]
          have := Nm.lt_ended a b k (by rw [← HL.out]; exact hk) (by rw [← HM.out]; exact hk2) (.inr (by rw [← HM.out]; omega)) HTK.out
          rw [← HL.out, ← HM.out] at this
          simp only [this])
        go_wp2_with fail
        go_ret
        exact ⟨by rw [HD.out]; rfl, q, rfl⟩
    · have HD : Hid (decide (L < M) = r) := Lib.hid (by
        rw [HR.out]
        have := Nm.lt_ended a b k (by rw [← HL.out]; exact hk) (by rw [← HM.out]; exact hk2) (.inl (by rw [← HL.out]; omega)) HTK.out
        rw [← HL.out, ← HM.out] at this
        simp only [this])
      go_wp2_with fail
      go_ret
      exact ⟨by rw [HD.out]; rfl, q, rfl⟩
end Go.Proofs.YtnnobfdpbdkceaaDoor
