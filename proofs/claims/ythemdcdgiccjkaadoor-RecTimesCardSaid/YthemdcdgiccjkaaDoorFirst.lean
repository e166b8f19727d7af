import Derived.Test.YthemdcdgiccjkaaDoorOf
import Derived.Lib.SlBytesConst
import Derived.Outline
namespace Go.Proofs.YthemdcdgiccjkaaDoor
open Go.RowKit Crc

theorem Tabs.alloc {w : World} (h : Tabs w) (_ : 4 ≤ w.heap.size) (o : Obj) : Tabs (w.alloc o) :=
  ⟨fun y => (World.cell?_alloc_lt w o _ h.lt.1).trans (h.lo y), fun y => (World.cell?_alloc_lt w o _ h.lt.2).trans (h.hi y)⟩
def digits : List UInt8 := [49, 50, 51, 52, 53, 54, 55, 56, 57]
theorem sum_digits : sum digits = 3808858755#32 := by decide +kernel
theorem of_at (A : Option Addr) (cap n : Nat) (ps : List Part) (w : World) (hn : ps.length = n) (hl : n ≤ 9223372036854775807) (hr : ReadsAll w A ps) (ht : Tabs w) :
    Calls Tryd.prog 36 #[.slice A n cap] w fun e w' => e = .returned (.int .u32 (U (sum (flat ps)))) ∧ ∃ n, w' = w.drewN n := by
  subst hn; exact of_any A cap ps w hl hr ht
theorem digits_cells : (digits.map fun x => Value.int .u8 (B x)).toArray = #[Value.int .u8 49, Value.int .u8 50, Value.int .u8 51, Value.int .u8 52, Value.int .u8 53, Value.int .u8 54, Value.int .u8 55, Value.int .u8 56, Value.int .u8 57] := by
  simp [digits, B]
theorem U_digits : U 3808858755#32 = 3808858755 := by decide

theorem first_any (w : World) (ht : Tabs w) (hw : 4 ≤ w.heap.size) :
    Calls Tryd.prog 35 #[] w fun e w' => e = .returned (.bool true) ∧ Below w.heap.size w w' := by
  have h1 := Reads.new w digits 5 (9, 10)
  rw [digits_cells] at h1
  have H1 := hide h1
  have HT := hide ht
  have kc := fun (w : World) (C : Array Value) (n c : Nat) => Lib.run_convert_bytes_const (P := Tryd.prog) w 22 5 C n c Tryd.underlying22 Tryd.underlying5
  clear ht h1
  go_enter Tryd.func35, Tryd.ntmps35
  go_wp2_with fail
  refine (of_at _ _ _ [⟨some ⟨w.heap.size, 0, none⟩, 9, digits⟩] _ rfl (Nat.le_of_ble_eq_true rfl) ?_ ?_).mono ?_
  · exact readsAll_slice _ _ _ _ _ _ _ rfl (by simp) H1.out (by omega)
  · exact ((HT.out.alloc hw _).alloc (by simp; omega) _)
  rintro e w' ⟨rfl, n, rfl⟩
  rw [show flat [⟨some ⟨w.heap.size, 0, none⟩, 9, digits⟩] = digits from rfl, sum_digits, U_digits]
  go_wp2
  go_ret
  exact ⟨rfl, below_drewN (((Below.refl _ _).alloc (Nat.le_refl _) _).alloc (by simp) _) _⟩
end Go.Proofs.YthemdcdgiccjkaaDoor
