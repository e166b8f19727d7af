/-
  make of records and of bytes: what lies there.
-/
import Derived.Test.YtomnkgppldgpkaaDoorRcU
namespace Go.Proofs.YtomnkgppldgpkaaDoor
open Go.RowKit

theorem cell_alloc_at (w : World) (C : Array Value) (t : TypeId) (n j : Nat) (hn : n = w.heap.size) : (w.alloc (.cells C t)).cell? ⟨n, j, none⟩ = C[j]? := by
  subst hn; exact World.cell?_alloc_mark _ _ _ _ _
theorem madeCells_get (z : Array Value) (n i : Nat) (h : i < n) : (madeCells z n)[i]? = some (z[i % z.size]!) := by
  unfold madeCells
  rw [Array.getElem?_map, Array.getElem?_range]
  simp [h]
theorem make_recs (N : Nat) (hN : N ≤ 1000) : ∃ CS : Array Value, (∀ k j, k < N → j < 3 → CS[k * 3 + j]? = (#[.int .i64 0, .slice none 0 0, .slice none 0 0] : Array Value)[j]?) ∧
    ∀ W, (Instr.makeSlice 24 (.int .i64 (N : Int)) (.int .i64 (N : Int))).run Tryd.prog W = .ok (.slice (some ⟨W.heap.size, 0, none⟩) N N) (W.alloc (.cells CS 48)) := by
  obtain ⟨i, hi, hz, hs1, hby⟩ := info_parts record_info
  refine ⟨madeCells #[.int .i64 0, .slice none 0 0, .slice none 0 0] (N * 3), fun k j hk hj => ?_, fun W => ?_⟩
  · rw [madeCells_get _ _ _ (by omega)]
    have e : (k * 3 + j) % (#[.int .i64 0, .slice none 0 0, .slice none 0 0] : Array Value).size = j := by
      show (k * 3 + j) % 3 = j
      omega
    rw [e]
    match j, hj with
    | 0, _ => rfl
    | 1, _ => rfl
    | 2, _ => rfl
  · have h := run_make (P := Tryd.prog) W 24 48 i _ Tryd.underlying24 hi hz .i64 .i64 (N : Int) (N : Int) (by omega) (by omega) (by rw [hby]; omega) (by omega)
    rw [h, hs1]
    rfl
theorem make_bytes (N : Nat) (hN : N ≤ 1000) : ∃ CS : Array Value, (∀ k, k < N → CS[k]? = some (.int .u8 0)) ∧
    ∀ W, (Instr.makeSlice 22 (.int .i64 (N : Int)) (.int .i64 (N : Int))).run Tryd.prog W = .ok (.slice (some ⟨W.heap.size, 0, none⟩) N N) (W.alloc (.cells CS 5)) := by
  obtain ⟨i, hi, hz, hs1, hby⟩ := info_parts byte_info
  refine ⟨madeCells #[.int .u8 0] (N * 1), fun k hk => ?_, fun W => ?_⟩
  · rw [madeCells_get _ _ _ (by omega)]
    have e : k % (#[.int .u8 0] : Array Value).size = 0 := by
      show k % 1 = 0
      omega
    rw [e]
    rfl
  · have h := run_make (P := Tryd.prog) W 22 5 i _ Tryd.underlying22 hi hz .i64 .i64 (N : Int) (N : Int) (by omega) (by omega) (by rw [hby]; omega) (by omega)
    rw [h, hs1]
    rfl
theorem Arg.zeros {w : World} {g N : Nat} (hN : N ≤ 1000) (hg : g < w.heap.size) (h : ∀ k, k < N → w.cell? ⟨g, k, none⟩ = some (.int .u8 0)) : Arg w (some ⟨g, 0, none⟩) N (List.replicate N 0) := by
  refine ⟨by simp, by omega, fun e => (by cases e), .inr ⟨g, 0, rfl, hg, fun k hk => ?_⟩⟩
  rw [List.length_replicate] at hk
  rw [Nat.zero_add, h k hk]
  simp [List.getD, hk, B]
end Go.Proofs.YtomnkgppldgpkaaDoor
