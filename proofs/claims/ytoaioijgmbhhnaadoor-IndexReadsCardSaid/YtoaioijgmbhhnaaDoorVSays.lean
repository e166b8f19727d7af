/-
  The walk through VintSays: any number's bytes, and any bytes' number, are what the chapter says.
-/
import Derived.Test.YtoaioijgmbhhnaaDoorVRef
import Derived.Test.YtoaioijgmbhhnaaDoorVBack
namespace Go.Proofs.YtoaioijgmbhhnaaDoor
open Go.RowKit

theorem refGet_at (A : Option Addr) (cap n : Nat) (l : List UInt8) (w : World) (a k c : Nat) (hn : l.length = n) (hg : Vi.get 0 0 l = (a, k, c)) (hl : n ≤ 1000000) (hr : Reads w A l) :
    Calls Tryd.prog 93 #[.slice A n cap] w fun e w' => e = .returned (.tuple #[.int .u64 a, .int .i64 k, .int .i64 c]) ∧ w = w' := by
  subst hn
  have h := refGet_any A cap l w hl hr
  rw [hg] at h; exact h
theorem refGetInt_at (A : Option Addr) (cap n : Nat) (l : List UInt8) (w : World) (a : Int) (k c : Nat) (hn : l.length = n) (hg : (Vi.unzz (Vi.get 0 0 l).1, (Vi.get 0 0 l).2) = (a, k, c)) (hl : n ≤ 1000000) (hr : Reads w A l) :
    Calls Tryd.prog 95 #[.slice A n cap] w fun e w' => e = .returned (.tuple #[.int .i64 a, .int .i64 k, .int .i64 c]) ∧ w = w' := by
  subst hn
  have h := refGetInt_any A cap l w hl hr
  have e1 := congrArg Prod.fst hg
  have e2 := congrArg Prod.snd hg
  simp only at e1 e2
  rw [e1, e2] at h; exact h
end Go.Proofs.YtoaioijgmbhhnaaDoor
