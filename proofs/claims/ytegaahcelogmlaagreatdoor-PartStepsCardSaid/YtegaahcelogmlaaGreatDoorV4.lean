/-
  A plan of parts, walked: count, fits, Range.
-/
import Derived.Test.YtegaahcelogmlaaGreatDoorV1
import Derived.Test.YtegaahcelogmlaaGreatDoorT3
import Derived.BigQuiet
namespace Go.Proofs.YtegaahcelogmlaaGreatDoor
open Go.RowKit Go.Maps

theorem wrap_nat (x : Nat) (h : x ≤ 9223372036854775807) : IntKind.i64.wrap (x : Int) = (x : Int) := IntWalk.i64_in _ (by omega)

set_option maxRecDepth 100000 in
theorem count_any (n e : Nat) (hn : n ≤ 1000000) (he : 1 ≤ e ∧ e ≤ 1048576) (hc : St.cnt n e ≤ 256) (w : World) :
    Calls Tryz.prog 17 #[.int .i64 n, .int .i64 e] w fun x w' => x = .returned (.tuple #[.int .i64 (St.cnt n e : Nat), .nilIface]) ∧ w' = w := by
  have hq : (n : Int).tdiv (e : Int) = ((n / e : Nat) : Int) := rfl
  have hr : (n : Int).tmod (e : Int) = ((n % e : Nat) : Int) := rfl
  have h0 : (e : Int) ≠ 0 := by omega
  have h1 : ¬ ((n : Int) < 0) := by omega
  have h2 : ¬ ((e : Int) < 1) := by omega
  have h3 : ¬ ((1048576 : Int) < (e : Int)) := by omega
  have hle : n / e ≤ 1000000 := Nat.le_trans (Nat.div_le_self n e) hn
  obtain ⟨k, hk⟩ : ∃ k, St.cnt n e = k := ⟨_, rfl⟩
  rw [hk] at hc ⊢
  unfold St.cnt at hk
  generalize n / e = x at *
  generalize n % e = r at *
  have wx := wrap_nat x (by omega)
  have hk3 : ¬ ((256 : Int) < (k : Int)) := by omega
  by_cases hp : 0 < r
  · rw [if_pos hp] at hk
    have hp2 : (0 : Int) < (r : Int) := by omega
    have hx1 : IntKind.i64.wrap ((x : Int) + 1) = (k : Int) := by rw [IntWalk.i64_in _ (by omega)]; omega
    clear hk
    go_enter Tryz.func17, Tryz.ntmps17
    go_wp2_with fail
    go_returns
    exact ⟨rfl, rfl⟩
  · rw [if_neg hp] at hk
    subst hk
    have hp2 : ¬ ((0 : Int) < (r : Int)) := by omega
    go_enter Tryz.func17, Tryz.ntmps17
    go_wp2_with fail
    go_returns
    exact ⟨rfl, rfl⟩

/-- A plan as a value. -/
abbrev planV (nm : List UInt8) (n sum e k : Int) : Value := .agg #[encStr nm, .int .i64 n, .int .u32 sum, .int .i64 e, .int .i64 k]
set_option maxRecDepth 100000 in
theorem fits_any (nm : List UInt8) (n e : Nat) (sum : Int) (hn : n ≤ 1000000) (he : 1 ≤ e ∧ e ≤ 1048576) (hc : St.cnt n e ≤ 256) (w : World) :
    Calls Tryz.prog 19 #[planV nm n sum e (St.cnt n e : Nat)] w fun x w' => x = .returned (.bool true) ∧ Below w.heap.size w w' := by
  have HC := hide (fun W => count_any n e hn he hc W)
  generalize St.cnt n e = k at *
  clear hn he hc
  go_enter Tryz.func19, Tryz.ntmps19
  go_wp2_with (first
    | (go_at_call 17; refine (HC.out _).mono ?_; rintro x w2 ⟨rfl, rfl⟩)
    | fail)
  go_ret
  exact ⟨rfl, balloc (Below.refl _ _) _⟩
theorem blk5 {w w' : World} {a b c d e : Value} {t : TypeId} (hb : Below (w.alloc (.cells #[a, b, c, d, e] t)).heap.size (w.alloc (.cells #[a, b, c, d, e] t)) w') :
    w'.cell? ⟨w.heap.size, 0, none⟩ = some a ∧ w'.cell? ⟨w.heap.size, 1, none⟩ = some b ∧ w'.cell? ⟨w.heap.size, 2, none⟩ = some c ∧ w'.cell? ⟨w.heap.size, 3, none⟩ = some d ∧ w'.cell? ⟨w.heap.size, 4, none⟩ = some e ∧ Below w.heap.size w w' := by
  have hblk := hb.block w.heap.size (by simp)
  rw [heap_alloc_new] at hblk
  refine ⟨?_, ?_, ?_, ?_, ?_, (balloc (Below.refl _ _) _).trans (hb.mono (by simp))⟩ <;> simp [World.cell?, hblk]
set_option maxRecDepth 100000 in
theorem range_in (nm : List UInt8) (n e j : Nat) (sum : Int) (hn : n ≤ 1000000) (he : 1 ≤ e ∧ e ≤ 1048576) (hc : St.cnt n e ≤ 256) (hj : j < St.cnt n e) (w : World) :
    Calls Tryz.prog 29 #[planV nm n sum e (St.cnt n e : Nat), .int .i64 j] w fun x w' => x = .returned (.tuple #[.int .i64 (j * e : Nat), .int .i64 (min (j * e + e) n : Nat), .bool true]) ∧ Below w.heap.size w w' := by
  have HF := hide (fun W => fits_any nm n e sum hn he hc W)
  have hb := St.cnt_below (by omega) hj
  have w1 : IntKind.i64.wrap ((j : Int) * (e : Int)) = ((j * e : Nat) : Int) := by rw [IntWalk.i64_in _ (by rw [← Int.natCast_mul]; omega)]; exact (Int.natCast_mul j e).symm
  generalize j * e = je at *
  have w2 : IntKind.i64.wrap ((je : Int) + (e : Int)) = ((je + e : Nat) : Int) := by rw [IntWalk.i64_in _ (by omega)]; omega
  have hm : (if n < je + e then (n : Int) else ((je + e : Nat) : Int)) = ((min (je + e) n : Nat) : Int) := by split <;> omega
  generalize St.cnt n e = k at *
  have h1 : ¬ ((j : Int) < 0) := by omega
  have h2 : ¬ ((k : Int) ≤ (j : Int)) := by omega
  generalize je + e = je2 at *
  generalize min je2 n = mn at *
  clear hn he hc
  go_enter Tryz.func29, Tryz.ntmps29
  go_upto_region 4 with (first
    | (go_at_call 19; refine (HF.out _).mono ?_; rintro x w2 ⟨rfl, hb⟩; obtain ⟨c0, c1, c2, c3, c4, hb⟩ := blk5 hb; have HB := hide hb; clear hb)
    | fail)
  go_region
  go_wp2_with fail
  go_returns
  exact ⟨rfl, HB.out.drew⟩
set_option maxRecDepth 100000 in
theorem range_out (nm : List UInt8) (n e : Nat) (sum : Int) (j : Int) (hj : j < 0 ∨ (St.cnt n e : Int) ≤ j) (w : World) :
    Calls Tryz.prog 29 #[planV nm n sum e (St.cnt n e : Nat), .int .i64 j] w fun x w' => x = .returned (.tuple #[.int .i64 0, .int .i64 0, .bool false]) ∧ Below w.heap.size w w' := by
  generalize St.cnt n e = k at *
  by_cases h1 : j < 0
  · clear hj
    go_enter Tryz.func29, Tryz.ntmps29
    go_wp2_with fail
    go_returns
    exact ⟨rfl, balloc (Below.refl _ _) _⟩
  · have h2 : (k : Int) ≤ j := by omega
    clear hj
    go_enter Tryz.func29, Tryz.ntmps29
    go_wp2_with fail
    go_returns
    exact ⟨rfl, balloc (Below.refl _ _) _⟩
end Go.Proofs.YtegaahcelogmlaaGreatDoor
