/-
  All files of a map of names in a row: maps.Values, slices.Collect.
-/
import Derived.Test.YtnjcngmmgceijaaDoorDkY
import Derived.Shelf.AbstractIn
namespace Go.Proofs.YtnjcngmmgceijaaDoor
open Go.RowKit Go.Maps Go.Sort

set_option maxRecDepth 100000 in
theorem values_any (b : Nat) (w : World) :
    Calls Tryd.prog 53 #[.map (some b)] w fun e w' => e = .returned (.func (.func 63) #[] #[.pointer (some ⟨w.heap.size, 0, none⟩)]) ∧ w' = w.alloc (.cells #[.map (some b)] 55) := by
  go_enter Tryd.func53, Tryd.ntmps53
  go_wp2_with fail
  go_ret
  exact ⟨rfl, rfl⟩

set_option maxRecDepth 100000 in
theorem collect_in (F : Fence) (n : Nat) (h8 : F.fn 61) (h11 : F.fn 79) (hFg : F.fn 63) (hro : F.round = none) (hn : 4 ≤ n) (Bm b nn : Nat) (f : Dk.Dir) (w : World) (hm : w.cell? ⟨Bm, 0, none⟩ = some (.map (some b))) (h : NamesAt w b nn f) (hnn : nn ≤ 1099511627776) :
    CallsIn F n Tryd.prog 61 #[.func (.func 63) #[] #[.pointer (some ⟨Bm, 0, none⟩)]] w fun e w' =>
      ∃ v xs, e = .returned v ∧ (Dk.Vals f xs ∧ xs.length ≤ nn) ∧ w'.ownsRow w.heap.size 63 1 v xs.length (xs.map fileE) ∧ Below w.heap.size w w' := by
  obtain ⟨N, hN, hseq⟩ := values_seq F (n - 1 - 1) hFg hro (by omega) Bm b nn f w hm h
  have hap := appendSeq_in F (n - 1) h11 hro (by omega) Bm f N (by omega) w hFg hseq
  have h1 : 1 ≤ n := by omega
  have e11 : ∀ args w, (callFunc 79 args).run Tryd.prog w = .ok (.enter 79 args) w := enters_of Tryd.func79 (by kernel_rfl) rfl
  clear hseq h
  refine callsIn_of_wp Tryd.func61 rfl h8 ?_ hro
  simp only [Tryd.ntmps61, List.size_toArray, List.length_cons, List.length_nil, Nat.reduceAdd, Nat.reduceSub, Array.replicate_succ, Array.replicate_zero, List.push_toArray, List.append_toArray, List.nil_append, List.cons_append]
  gi_wp2_with (gi_at_fn 79; refine hap.mono ?_; rintro e w' ⟨v, xs, rfl, hS, hrow, hb⟩)
  go_ret
  exact ⟨v, xs, rfl, ⟨hS.1, by have := hS.2; omega⟩, hrow, hb⟩
end Go.Proofs.YtnjcngmmgceijaaDoor
