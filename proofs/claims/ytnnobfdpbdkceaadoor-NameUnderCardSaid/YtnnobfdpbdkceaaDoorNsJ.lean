/-
  Package name: texts of certain bytes; names, kinds.
-/
import Derived.Test.YtnnobfdpbdkceaaDoorNsD
namespace Go.Proofs.YtnnobfdpbdkceaaDoor
open Go.RowKit Go.Shelf

theorem trimLeft_any (s cs : List UInt8) (w : World) (hl : cs.length ≤ 1000) (ha : ∀ b ∈ cs, b.toNat < 128) : Calls Tryd.prog 27 #[str s, str cs] w fun e w' => e = .returned (str (Lib.trimLeftS s cs)) ∧ Below w.heap.size w w' :=
  Any.strings_TrimLeft_ascii lay_trimLeftF (fun _ => by kernel_rfl) (by kernel_rfl) ⟨s.toArray⟩ ⟨cs.toArray⟩ w (by show cs.toArray.size < _; simp; omega) (fun j b h => ha b (List.mem_of_getElem? h))

def justB (cs s : List UInt8) (most : Nat) : Bool := decide (s ≠ []) && (decide (s.length ≤ most) && s.all (cs.contains ·))
theorem drop_nil (p : UInt8 → Bool) : ∀ s : List UInt8, s.dropWhile p = [] ↔ s.all p = true
  | [] => by simp
  | c :: s => by
    rw [List.dropWhile_cons, List.all_cons]
    cases h : p c
    · simp
    · simpa using drop_nil p s

set_option maxRecDepth 100000 in
theorem just_any (cs s : List UInt8) (most : Nat) (w : World) (hl : cs.length ≤ 1000) (ha : ∀ b ∈ cs, b.toNat < 128) :
    Calls Tryd.prog 20 #[str cs, str s, .int .i64 (most : Int)] w fun e w' => e = .returned (.bool (justB cs s most)) ∧ Below w.heap.size w w' := by
  have HT := Lib.hid (trimLeft_any s cs w hl ha)
  clear hl ha
  by_cases h0 : s = []
  · subst h0
    go_enter Tryd.func20, Tryd.ntmps20
    go_wp2_with fail
    go_ret
    exact ⟨rfl, Below.refl _ _⟩
  · have he : s.isEmpty = false := by cases s with | nil => exact absurd rfl h0 | cons _ _ => rfl
    by_cases h1 : s.length ≤ most
    · have hd : decide (s.length ≤ most) = true := by simp [h1]
      cases h2 : s.all (cs.contains ·) with
      | true =>
        have h3 : Lib.trimLeftS s cs = [] := (drop_nil _ s).2 h2
        rw [h3] at HT
        have hj : justB cs s most = true := by unfold justB; rw [h2]; simp [h0, h1]
        rw [hj]
        clear h2 h3 hj
        go_enter Tryd.func20, Tryd.ntmps20
        go_wp2_with (first
          | (go_at_call 27; refine HT.out.mono ?_; rintro e w1 ⟨rfl, hb1⟩; have HB1 := Lib.hid hb1; clear hb1)
          | fail)
        go_ret
        exact ⟨rfl, HB1.out⟩
      | false =>
        have h3 : Lib.trimLeftS s cs ≠ [] := fun e => by
          have := (drop_nil _ s).1 e
          rw [h2] at this
          cases this
        have hj : justB cs s most = false := by unfold justB; rw [h2]; simp
        rw [hj]
        generalize Lib.trimLeftS s cs = t at *
        have ht : t.isEmpty = false := by cases t with | nil => exact absurd rfl h3 | cons _ _ => rfl
        clear h2 h3 hj
        go_enter Tryd.func20, Tryd.ntmps20
        go_wp2_with (first
          | (go_at_call 27; refine HT.out.mono ?_; rintro e w1 ⟨rfl, hb1⟩; have HB1 := Lib.hid hb1; clear hb1)
          | fail)
        go_ret
        exact ⟨rfl, HB1.out⟩
    · have hd : decide (s.length ≤ most) = false := by simp; omega
      have hj : justB cs s most = false := by unfold justB; rw [hd]; simp
      rw [hj]
      clear hj
      go_enter Tryd.func20, Tryd.ntmps20
      go_wp2_with fail
      go_ret
      exact ⟨rfl, Below.refl _ _⟩

def abc : List UInt8 := [97, 98, 99, 100, 101, 102, 103, 104, 105, 106, 107, 108, 109, 110, 111, 112, 113, 114, 115, 116, 117, 118, 119, 120, 121, 122]
def within : List UInt8 := [97, 98, 99, 100, 101, 102, 103, 104, 105, 106, 107, 108, 109, 110, 111, 112, 113, 114, 115, 116, 117, 118, 119, 120, 121, 122, 48, 49, 50, 51, 52, 53, 54, 55, 56, 57, 46, 45, 95]
theorem abc_fin : ∀ i : Fin 256, abc.contains (UInt8.ofNat i.val) = Nm.letter (UInt8.ofNat i.val) := by decide +kernel
theorem abc_all (c : UInt8) : abc.contains c = Nm.letter c := by
  have h := abc_fin ⟨c.toNat, c.toNat_lt⟩
  rwa [show UInt8.ofNat c.toNat = c from UInt8.ofNat_toNat] at h
def okB (c : UInt8) : Bool := (97 ≤ c && c ≤ 122) || (48 ≤ c && c ≤ 57) || c == 46 || c == 45 || c == 95
theorem within_fin : ∀ i : Fin 256, within.contains (UInt8.ofNat i.val) = okB (UInt8.ofNat i.val) := by decide +kernel
theorem within_all (c : UInt8) : within.contains c = okB c := by
  have h := within_fin ⟨c.toNat, c.toNat_lt⟩
  rwa [show UInt8.ofNat c.toNat = c from UInt8.ofNat_toNat] at h
def validN (s : List UInt8) : Bool := decide (s ≠ []) && (decide (s.length ≤ 64) && s.all okB)
theorem just_abc (s : List UInt8) : justB abc s 8 = Nm.kindly s := by
  unfold justB Nm.kindly
  rw [show (fun c => abc.contains c) = Nm.letter from funext abc_all]
  cases s <;> simp
theorem just_within (s : List UInt8) : justB within s 64 = validN s := by
  unfold justB validN
  rw [show (fun c => within.contains c) = okB from funext within_all]
end Go.Proofs.YtnnobfdpbdkceaaDoor
