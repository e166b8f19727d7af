/-
  Package name: numbers in digits, offsets, segments' names.
-/
import Derived.Test.YtnnobfdpbdkceaaDoorNsC
import Derived.WalkSmall
import Derived.IntWalk
import Derived.Lib.Hide
import Derived.Outline
import Derived.Handy
import Derived.Shelf.SlSorted.Search
namespace Go.Proofs.YtnnobfdpbdkceaaDoor
open Go.RowKit Go.Shelf

/-- The library's powers of ten. -/
def PowTab (w : World) : Prop := Lib.TabIs Tryd.prog w "internal/strconv.uint64pow10" .u64 Lib.pow10Tab
theorem PowTab.below {w w' : World} (h : PowTab w) (hb : Below w.heap.size w w') : PowTab w' := by
  have hg : Tryd.prog.globalNamed "internal/strconv.uint64pow10" = some 0 := by kernel_rfl
  have hlt : 0 < w.heap.size := by
    have h' := h
    unfold PowTab Lib.TabIs World.var? at h'
    rw [hg] at h'
    rcases Nat.lt_or_ge 0 w.heap.size with h1 | h1
    · exact h1
    · simp [Array.getElem?_eq_none h1] at h'
  exact var?_below hb hg hlt h

theorem itoa_any (n : Nat) (w : World) (hn : n ≤ 9223372036854775807) (ht : PowTab w) : Calls Tryd.prog 25 #[.int .i64 (n : Int), .int .i64 10] w fun e w' => e = .returned (str (Lib.decDigits n)) ∧ Below w.heap.size w w' :=
  (Any.strconv_FormatInt_10 lay_formatF (n : Int) (by omega) (by omega) w ht).mono fun e w' ⟨he, k, os, hw⟩ => ⟨by
    rw [he]
    unfold Lib.itoa
    rw [if_neg (by omega)]
    rfl, by rw [hw]; exact below_grown_sl w.heap.size w k os (Nat.le_refl _)⟩

set_option maxRecDepth 100000 in
theorem digits_any (k n : Nat) (m : Int) (hmm : m = ((k + 1 : Nat) : Int)) (w : World) (hk : k ≤ 17) (hn : n < 10 ^ (k + 1)) (ht : PowTab w) :
    Calls Tryd.prog 19 #[.int .i64 (n : Int), .int .i64 m] w fun e w' => e = .returned (str (Nm.dgs (k + 1) n)) ∧ Below w.heap.size w w' := by
  subst hmm
  obtain ⟨h1, h2⟩ := Nm.dgs_pad k n hn
  have hp : 10 ^ (k + 1) ≤ 10 ^ 18 := Nat.pow_le_pow_right (by decide) (by omega)
  have HI := Lib.hid (itoa_any n w (by omega) ht)
  obtain ⟨r, hr⟩ : ∃ r, r = Nm.dgs (k + 1) n := ⟨_, rfl⟩
  rw [← hr] at h2 ⊢
  generalize Lib.decDigits n = l at *
  obtain ⟨m, hm⟩ : ∃ m, m = k + 1 := ⟨_, rfl⟩
  rw [← hm] at h1 h2 ⊢
  have hm18 : m ≤ 18 := by omega
  have hw1 : IntKind.i64.wrap ((m : Int) - (l.length : Int)) = ((m - l.length : Nat) : Int) := by rw [IntWalk.i64_in _ (by omega)]; omega
  have H2 := Lib.hid h2
  clear ht hr hn hp h2 hm
  go_enter Tryd.func19, Tryd.ntmps19
  go_wp2_with (first
    | (go_at_call 25; refine HI.out.mono ?_; rintro e w1 ⟨rfl, hb1⟩; have HB1 := Lib.hid hb1; clear hb1)
    | (go_at_call 26; refine (noughts_any (m - l.length) w1 (by omega)).mono ?_; rintro e w2 ⟨rfl, hb2⟩; have HB2 := Lib.hid hb2; clear hb2)
    | fail)
  go_ret
  refine ⟨?_, HB1.out.trans (HB2.out.mono HB1.out.size)⟩
  rw [← H2.out]
  congr 2

def rightB (b : Int) : Bool := decide (Nm.right b)
theorem right_any (b : Int) (w : World) : Calls Tryd.prog 18 #[.int .i64 b] w fun e w' => e = .returned (.bool (rightB b)) ∧ w' = w := by
  by_cases h1 : 0 ≤ b
  · have d1 : decide (0 ≤ b) = true := by simp [h1]
    by_cases h2 : b ≤ 1099511627776
    · have d2 : decide (b ≤ 1099511627776) = true := by simp [h2]
      have hr : rightB b = true := by simp [rightB, Nm.right, h1, h2]
      rw [hr]
      go_enter Tryd.func18, Tryd.ntmps18
      go_wp2_with fail
      go_ret
      exact ⟨rfl, rfl⟩
    · have d2 : decide (b ≤ 1099511627776) = false := by simp; omega
      have hr : rightB b = false := decide_eq_false fun h => by unfold Nm.right at h; omega
      rw [hr]
      go_enter Tryd.func18, Tryd.ntmps18
      go_wp2_with fail
      go_ret
      exact ⟨rfl, rfl⟩
  · have d1 : decide (0 ≤ b) = false := by simp; omega
    have hr : rightB b = false := decide_eq_false fun h => by unfold Nm.right at h; omega
    rw [hr]
    go_enter Tryd.func18, Tryd.ntmps18
    go_wp2_with fail
    go_ret
    exact ⟨rfl, rfl⟩

set_option maxRecDepth 100000 in
theorem segment_any (b : Int) (w : World) (ht : PowTab w) : Calls Tryd.prog 10 #[.int .i64 b] w fun e w' => e = .returned (str (Nm.seg b)) ∧ Below w.heap.size w w' := by
  by_cases hr : Nm.right b
  · have hb := hr
    unfold Nm.right at hb
    obtain ⟨n, rfl⟩ := Int.eq_ofNat_of_zero_le hb.1
    have HD := Lib.hid (digits_any 12 n 13 rfl w (by omega) (by omega) ht)
    have HR := Lib.hid (right_any (n : Int) w)
    rw [show rightB (n : Int) = true from decide_eq_true hr] at HR
    have hs : Nm.seg (n : Int) = Nm.log ++ Nm.dgs 13 n := by unfold Nm.seg; rw [if_pos hr]; rfl
    have HS := Lib.hid hs
    generalize Nm.seg (n : Int) = r at *
    have hdl : (Nm.dgs 13 n).length ≤ 13 := by rw [Nm.dgs_length]; exact Nat.le_refl _
    generalize Nm.dgs 13 n = d at *
    clear hb hr ht hs
    go_enter Tryd.func10, Tryd.ntmps10
    go_wp2_with (first
      | (go_at_call 18; refine HR.out.mono ?_; rintro e w1 ⟨rfl, rfl⟩)
      | (go_at_call 19; refine HD.out.mono ?_; rintro e w2 ⟨rfl, hb2⟩; have HB2 := Lib.hid hb2; clear hb2)
      | fail)
    go_ret
    refine ⟨?_, HB2.out⟩
    rw [HS.out]
    congr 2
  · have HR := Lib.hid (right_any b w)
    rw [show rightB b = false from decide_eq_false hr] at HR
    have hs : Nm.seg b = [] := by unfold Nm.seg; rw [if_neg hr]
    rw [hs]
    clear hr ht hs
    go_enter Tryd.func10, Tryd.ntmps10
    go_wp2_with (first
      | (go_at_call 18; refine HR.out.mono ?_; rintro e w1 ⟨rfl, rfl⟩)
      | fail)
    go_ret
    exact ⟨rfl, Below.refl _ _⟩
end Go.Proofs.YtnnobfdpbdkceaaDoor
