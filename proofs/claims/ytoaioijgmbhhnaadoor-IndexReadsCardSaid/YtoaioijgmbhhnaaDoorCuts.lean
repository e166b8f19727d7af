/-
  Pieces of slices of bytes.
-/
import Derived.Test.YtoaioijgmbhhnaaDoorOwnB
namespace Go.Proofs.YtoaioijgmbhhnaaDoor
open Go.RowKit

theorem Reads.sub {w : World} {b off : Nat} {l : List UInt8} (h : Reads w (some ⟨b, off, none⟩) l) (i m : Nat) : Reads w (some ⟨b, off + i, none⟩) ((l.drop i).take m) := by
  rcases h with rfl | ⟨b', off', e, hb, hc⟩
  · exact .inl (by simp)
  · injection e with e
    injection e with e1 e2
    subst e1 e2
    refine .inr ⟨_, _, rfl, hb, fun k hk => ?_⟩
    have hk' : k < m ∧ i + k < l.length := by
      rw [List.length_take, List.length_drop] at hk; omega
    rw [Nat.add_assoc, hc (i + k) hk'.2]
    congr 2
    simp [List.getD, hk'.1]
/-- Where a slice cut ahead at q begins. -/
def cutA (A : Option Addr) (cap q : Nat) : Option Addr := if cap = q then A else A.map (·.add q)
theorem byte_elem : Tryd.prog.underlying 30 = some (.slice (Tryd.prog.elem 30)) := by kernel_rfl
theorem byte_sizeOf (W : World) : (sizeOf (Tryd.prog.elem 30)).run Tryd.prog W = .ok 1 W := by
  have h : Tryd.prog.elem 30 = 5 := by kernel_rfl
  obtain ⟨i, hi, hz, hs1, hby⟩ := info_parts byte_info
  rw [h]; simp [sizeOf, typeInfo, hi, hs1]
theorem run_cut_l (W : World) (A : Option Addr) (n cap q : Nat) (h : q ≤ n) :
    (Instr.sliceAt 30 (.slice A n cap) (some (.int .i64 (q : Int))) none none).run Tryd.prog W = .ok (.slice (cutA A cap q) (n - q) (cap - q)) W := by
  rw [run_sliceAt_slice W _ _ _ _ _ byte_elem, run_slice_l W _ A n cap byte_elem .i64 (q : Int) (by omega) (by omega), byte_sizeOf]
  simp [Result.andThen, sliced, cutA]
theorem run_cut_h (W : World) (A : Option Addr) (n cap q : Nat) (h : q ≤ cap) :
    (Instr.sliceAt 30 (.slice A n cap) none (some (.int .i64 (q : Int))) none).run Tryd.prog W = .ok (.slice A q cap) W := by
  rw [run_sliceAt_slice W _ _ _ _ _ byte_elem, run_slice_h W _ A n cap byte_elem .i64 (q : Int) (by omega) (by omega), byte_sizeOf]
  simp [Result.andThen, sliced]
  intro h0 
  cases A <;> simp [Addr.add]
theorem Reads.first {w : World} {A : Option Addr} {l : List UInt8} (h : Reads w A l) (q : Nat) : Reads w A (l.take q) := by
  rcases h with rfl | ⟨b, off, rfl, hb, hc⟩
  · exact .inl (by simp)
  · refine .inr ⟨_, _, rfl, hb, fun k hk => ?_⟩
    rw [List.length_take] at hk
    rw [hc k (by omega)]
    congr 2
    simp [List.getD, show k < q by omega]
theorem Reads.cut {w : World} {A : Option Addr} {l : List UInt8} (h : Reads w A l) (cap q : Nat) (hl : l.length ≤ cap) (hA : A = none → cap = 0) (hq : q ≤ l.length) : Reads w (cutA A cap q) (l.drop q) := by
  unfold cutA
  split
  · exact .inl (List.drop_eq_nil_of_le (by omega))
  · rcases A with _ | ⟨b, off, sp⟩
    · have := hA rfl; omega
    · rcases h with rfl | ⟨b', off', e, hb, hc⟩
      · exact .inl (by simp)
      · obtain ⟨rfl, rfl, rfl⟩ := by simpa using e
        have h2 := Reads.sub (w := w) (b := b) (off := off) (l := l) (.inr ⟨_, _, rfl, hb, hc⟩) q l.length
        rw [List.take_of_length_le (by simp)] at h2
        simpa [Addr.add_lit] using h2
theorem run_cut_lh (W : World) (A : Option Addr) (n cap lo hi : Nat) (h : lo ≤ hi) (h2 : hi ≤ cap) :
    (Instr.sliceAt 30 (.slice A n cap) (some (.int .i64 (lo : Int))) (some (.int .i64 (hi : Int))) none).run Tryd.prog W = .ok (.slice (cutA A cap lo) (hi - lo) (cap - lo)) W := by
  rw [run_sliceAt_slice W _ _ _ _ _ byte_elem, run_slice_lh W _ A n cap byte_elem .i64 .i64 (lo : Int) (hi : Int) (by omega) (by omega) (by omega), byte_sizeOf]
  simp [Result.andThen, sliced, cutA]
end Go.Proofs.YtoaioijgmbhhnaaDoor
