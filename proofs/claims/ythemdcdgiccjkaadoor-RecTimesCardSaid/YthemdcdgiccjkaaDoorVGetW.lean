/-
  Get and GetInt as the walks ask them; what they answer of what Put laid.
-/
import Derived.Test.YthemdcdgiccjkaaDoorVGetI
import Derived.Test.YthemdcdgiccjkaaDoorArgs
namespace Go.Proofs.YthemdcdgiccjkaaDoor
open Go.RowKit

theorem get_at (A : Option Addr) (cap n : Nat) (l : List UInt8) (w : World) (p : Nat → Addr) (a k c : Nat) (hn : l.length = n) (hg : Vi.get 0 0 l = (a, k, c)) (hl : n ≤ 1000000) (ha : Arg w A cap l) (hs : Sents5 w p) :
    Calls Tryd.prog 44 #[.slice A n cap] w fun e w' => e = .returned (.tuple #[.int .u64 a, .int .i64 k, errOf p c]) ∧ ∃ n, w' = w.drewN n := by
  subst hn
  have h := get_any A cap l w p hl ha.le ha.reads hs
  rw [hg] at h; exact h
theorem getInt_at (A : Option Addr) (cap n : Nat) (l : List UInt8) (w : World) (p : Nat → Addr) (a : Int) (k c : Nat) (hn : l.length = n) (hg : (Vi.unzz (Vi.get 0 0 l).1, (Vi.get 0 0 l).2) = (a, k, c)) (hl : n ≤ 1000000) (ha : Arg w A cap l) (hs : Sents5 w p) :
    Calls Tryd.prog 46 #[.slice A n cap] w fun e w' => e = .returned (.tuple #[.int .i64 a, .int .i64 k, errOf p c]) ∧ ∃ n, w' = w.drewN n := by
  subst hn
  have h := getInt_any A cap l w p hl ha.le ha.reads hs
  have e1 := congrArg Prod.fst hg
  have e2 := congrArg Prod.snd hg
  simp only at e1 e2
  rw [e1, e2] at h; exact h
theorem get_of_put (u : Nat) (r : List UInt8) (hu : u < 18446744073709551616) : Vi.get 0 0 (Vi.put u ++ r) = (u, Vi.size u, 0) := by
  have h := Vi.get_put u 0 0 r (fun h => absurd h (Nat.lt_irrefl 0)) (by simpa using hu)
  simpa using h
theorem get_of_cut (u : Nat) (hu : u < 18446744073709551616) : Vi.get 0 0 ((Vi.put u).take (Vi.size u - 1)) = (0, 0, 101) := by
  have h := Vi.get_cut u 0 0 (by have := Vi.size_le10 hu; omega)
  rwa [List.dropLast_eq_take] at h
end Go.Proofs.YthemdcdgiccjkaaDoor
