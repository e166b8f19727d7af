/-
  A batch's bytes read, plainly.
-/
import Derived.Test.YthemdcdgiccjkaaDoorRc
import Derived.Test.YthemdcdgiccjkaaDoorVFixed
namespace Go.Proofs.YthemdcdgiccjkaaDoor
namespace Rc

def toI (n : Nat) : Int := if n < 9223372036854775808 then (n : Int) else (n : Int) - 18446744073709551616
theorem toI_bd (n : Nat) (h : n < 18446744073709551616) : -9223372036854775808 ≤ toI n ∧ toI n ≤ 9223372036854775807 := by
  unfold toI; split <;> omega
theorem toI_wrap (n : Nat) (h : n < 18446744073709551616) : IntKind.i64.wrap (n : Int) = toI n := by
  rw [IntKind.wrap_i64]; unfold toI; split <;> omega
/-- One record read. -/
def step1 (l : List UInt8) (s : Vi.Rs) (t st : Int) : Rec × Vi.Rs :=
  let i := Vi.int l s (-st) st
  let k := Vi.text l i.2 64
  let v := Vi.text l k.2 512
  (⟨t + i.1, k.1, v.1⟩, v.2)
def loop (l : List UInt8) (many : Nat) : Nat → Vi.Rs → Int → Int → List Rec → List Rec × Vi.Rs
  | 0, s, _, _, acc => (acc, s)
  | f + 1, s, t, st, acc =>
    if acc.length < many ∧ s.code = 0 then loop l many f (step1 l s t st).2 (step1 l s t st).1.t 2199023255552 (acc ++ [(step1 l s t st).1]) else (acc, s)
theorem loop_on (l : List UInt8) (many : Nat) (s : Vi.Rs) (t st : Int) (acc : List Rec) (h : acc.length < many) (hc : s.code = 0) :
    loop l many (many - acc.length) s t st acc = loop l many (many - (acc ++ [(step1 l s t st).1]).length) (step1 l s t st).2 (step1 l s t st).1.t 2199023255552 (acc ++ [(step1 l s t st).1]) := by
  rw [show many - acc.length = (many - acc.length - 1) + 1 by omega, loop, if_pos ⟨h, hc⟩]
  congr 1
  rw [List.length_append]; simp; omega
theorem loop_end (l : List UInt8) (many : Nat) (s : Vi.Rs) (t st : Int) (acc : List Rec) (h : ¬ (acc.length < many ∧ s.code = 0)) : loop l many (many - acc.length) s t st acc = (acc, s) := by
  cases hk : many - acc.length with
  | zero => rfl
  | succ k => rw [loop, if_neg h]
def head1 (l : List UInt8) : Nat × Vi.Rs := Vi.fixed l start 8
def head2 (l : List UInt8) : Nat × Vi.Rs := Vi.fixed l (head1 l).2 4
def head3 (l : List UInt8) : Nat × Vi.Rs := Vi.fixed l (head2 l).2 2
def head4 (l : List UInt8) : Int × Vi.Rs := Vi.int l (head3 l).2 (-1099511627776) 1099511627776
def tail (l : List UInt8) : List Rec × Vi.Rs := loop l (head3 l).1 (head3 l).1 (head4 l).2 (head4 l).1 0 []
def parse (l : List UInt8) : Bat := ⟨toI (head1 l).1, (head2 l).1, (tail l).1⟩
def okay (l : List UInt8) : Bool := decide ((tail l).2.code = 0 ∧ l.length ≤ (tail l).2.at_ ∧ bad (parse l) = 0)

theorem int_bd (l : List UInt8) (s : Vi.Rs) (st : Int) (h : 0 ≤ st) : -st ≤ (Vi.int l s (-st) st).1 ∧ (Vi.int l s (-st) st).1 ≤ st := by
  unfold Vi.int Vi.peekI
  split
  · exact ⟨by show -st ≤ 0; omega, h⟩
  · simp only
    split
    · exact ⟨by show -st ≤ 0; omega, h⟩
    · split
      · exact ⟨by show -st ≤ 0; omega, h⟩
      · rename_i h3
        exact ⟨by omega, by omega⟩
theorem fixed_lt (l : List UInt8) (s : Vi.Rs) (n : Nat) : (Vi.fixed l s n).1 < 2 ^ (8 * n) := by
  unfold Vi.fixed
  split
  · exact Nat.two_pow_pos _
  · split
    · exact Nat.two_pow_pos _
    · rename_i h
      have h1 := little_lt ((l.drop s.at_).take (n : Int).toNat)
      refine Nat.lt_of_lt_of_le h1 (Nat.pow_le_pow_right (by omega) ?_)
      rw [List.length_take]
      omega
end Rc
end Go.Proofs.YthemdcdgiccjkaaDoor
