/-
  The files of a map of names, handed over one after another: maps.Values.
-/
import Derived.Test.YtnjcngmmgceijaaDoorDkW
import Derived.Test.YtnjcngmmgceijaaDoorSeqW
import Derived.Sort.MapsRangeIn
import Derived.Sort.KeysCollected
import Derived.OwnWalkIn
import Derived.TacticsInMore
import Derived.RegionIn
import Derived.LoopNIn
import Derived.LoopIn
namespace Go.Proofs.YtnjcngmmgceijaaDoor
open Go.RowKit Go.Maps Go.Sort

/-- What reads as a pointer to a file is one. -/
theorem ptrE_some {v : Value} {z : DataW Unit × List MemPlace} (h : ptrE v = some z) : ∃ o : Option Nat, v = fileV o ∧ z.1 = fileD o (.lit (.int .i64 (-1))) := by
  unfold ptrE at h
  split at h
  · exact ⟨none, rfl, by cases h; rfl⟩
  · rename_i b
    exact ⟨some b, rfl, by cases h; rfl⟩
  · cases h

/-- A key whose element reads as a pointer leads to a file. -/
theorem at_file {f : Dk.Dir} {D0 : DataW Unit} (hat0 : ∀ k zd, D0.atKey (.string k) zd = fileD (f k) zd) {k : Dk.Nm} {o : Option Nat} (hat : ∀ zd, D0.atKey (.string k) zd = fileD o (.lit (.int .i64 (-1)))) : ∃ i, f k = some i ∧ o = some i := by
  cases hf : f k with
  | none =>
    have h1 := hat (.lit (.bool true))
    rw [hat0, hf] at h1
    cases o <;> simp [fileD] at h1
  | some i =>
    refine ⟨i, rfl, ?_⟩
    have h1 := hat (.lit (.bool true))
    rw [hat0, hf] at h1
    cases o with
    | none => simp [fileD] at h1 <;> omega
    | some j =>
      simp [fileD] at h1
      congr 1
      omega
theorem has_iff {f : Dk.Dir} {D0 : DataW Unit} (hat0 : ∀ k zd, D0.atKey (.string k) zd = fileD (f k) zd) (x : Dk.Nm) : Maps.has D0 (.string x) = true ↔ f x ≠ none := by
  cases hf : f x with
  | none =>
    have := has_false_of_atKey (D := D0) (k := .string x) fun z => by rw [hat0, hf]; rfl
    simp [this]
  | some i =>
    have := has_true_of_atKey (D := D0) (k := .string x) (y := .lit (.int .i64 (i : Int))) fun z => by rw [hat0, hf]; rfl
    simp [this]

set_option maxRecDepth 100000 in
set_option maxHeartbeats 1000000 in
theorem values1_in (F : Fence) (n : Nat) (h8 : F.fn 63) (hro : F.round = none) (hn : 1 ≤ n) (l Bm b nn : Nat) (f : Dk.Dir) (D0 : DataW Unit) (J Jx : List Nat → World → Prop)
    (hY : ∀ pre x W, J pre W → pre.length < Maps.size D0 → YieldAt F (n - 1) Tryd.prog l #[fileV (some x)] W fun e W' =>
      (e = .returned (.bool true) ∧ J (pre ++ [x]) W' ∧ KeepsWalks W W') ∨ (e = .returned (.bool false) ∧ Jx (pre ++ [x]) W'))
    (W : World) (hJ : AbidesFrom W.heap.size J) (hm : W.cell? ⟨Bm, 0, none⟩ = some (.map (some b))) (hown : W.ownsMap Tryd.prog 9 ptrE b nn D0) (hat0 : ∀ k zd, D0.atKey (.string k) zd = fileD (f k) zd) (h0 : J [] W) :
    CallsIn F n Tryd.prog 63 #[.func (.yield l) #[] #[], .pointer (some ⟨Bm, 0, none⟩)] W fun e W' => (∃ v, e = .returned v) ∧
      ((∃ xs, (Dk.Vals f xs ∧ xs.length ≤ Maps.size D0) ∧ J xs W') ∨ (∃ pre, True ∧ Jx pre W')) := by
  refine callsIn_of_wp Tryd.func63 rfl h8 ?_ hro
  simp only [Tryd.ntmps63, List.size_toArray, List.length_cons, List.length_nil, Nat.reduceAdd, Nat.reduceSub, Array.replicate_succ, Array.replicate_zero, List.push_toArray, List.append_toArray, List.nil_append, List.cons_append]
  have tk : Tryd.prog.underlying 9 = some .string := Tryd.underlying9
  gi_wp2_with (first
    | (gi_at_range; refine wpListIn_range_own _ rfl _ 55 rfl 9 63 (string_keyed tk) map_type _ b nn _ rfl hown ?_; intro w0 hrg0 hg0 hs0)
    | gi_in)
  go_frame
  gi_loopw [4] (fun _ wr => ∃ (left : Lit → Bool) (cnt : Nat) (ps : List (Dk.Nm × Nat)), wr.ranges Tryd.prog 9 ptrE b W.heap.size nn D0 left cnt ∧ ps.length + cnt ≤ Maps.size D0 ∧ Collected D0 left (ps.map (·.1)) ∧ (∀ p ∈ ps, f p.1 = some p.2) ∧ J (ps.map (·.2)) wr)
    (fun _ wr => wr.rangeLeft b W.heap.size)
  case atStart =>
    exact ⟨_, _, [], hrg0, by simp, Collected.start D0, by simp, hJ [] W w0 none h0 hg0 (fun r e => by cases e)⟩
  case round =>
    obtain ⟨left, cnt, ps, hrg, hcs, hC, hV, hJs⟩ := hrel
    gi_wp2_with (first
      | (gi_at_next; refine wpListIn_next_ranges _ rfl _ rfl 9 (string_keyed tk) ptrE encStr fileV (fun key kl hk => by obtain ⟨x, hx, _⟩ := Maps.keyOf_str tk hk; exact ⟨x, hx⟩) (fun v y hv => by obtain ⟨c, e, _⟩ := ptrE_some hv; exact ⟨c, e⟩) b W.heap.size nn _ _ _ rfl hrg ?_ ?_)
      | gi_in)
    · intro hc0 hl0
      gi_wp2
      go_end0
      refine ⟨⟨_, rfl⟩, .inl ⟨_, ⟨⟨ps.map (·.1), hC.1, fun x => ?_, ?_⟩, by rw [List.length_map]; omega⟩, hJs⟩⟩
      · rw [hC.2 x, hl0, ← has_iff hat0 x]; simp
      · simp only [List.map_map]
        exact List.map_congr_left fun p hp => (hV p hp).symm
    · intro x c kl yd yp w2 cnt2 hkey hlk hv hat hrg2 hlt hg2 hs2 hen
      obtain ⟨x', ex, rfl, _⟩ := Maps.keyOf_str tk hkey
      obtain rfl : x = x' := encStr_inj ex
      obtain ⟨i, hfi, hci⟩ : ∃ i, f x = some i ∧ c = some i := by
        have hv2 : ptrE (fileV c) = some (fileD c (.lit (.int .i64 (-1))), []) := by cases c <;> rfl
        rw [hv2] at hv
        obtain ⟨rfl, -⟩ := Prod.mk.inj (Option.some.inj hv)
        exact at_file hat0 hat
      subst hci
      have hJ2 : J (ps.map (·.2)) w2 := hJ _ wr w2 (some W.heap.size) hJs hg2 (fun r e => by cases e; exact ⟨Nat.le_refl _, hrg.iter_walk⟩)
      obtain ⟨fn, tmps, assign, body, hy, hR⟩ := hY (ps.map (·.2)) i w2 hJ2 (by simp; omega)
      clear hs2
      gi_wp2
      refine hR.mono ?_
      have hC2 : Collected D0 (fun z => left z && !z.sameKey (.string x)) ((ps ++ [(x, i)]).map (·.1)) := by simpa using hC.step hlk hat
      have hV2 : ∀ p ∈ ps ++ [(x, i)], f p.1 = some p.2 := fun p hp => (List.mem_append.1 hp).elim (hV p) (fun e => by simp at e; subst e; exact hfi)
      rintro e W3 (⟨rfl, hJ3, hk3⟩ | ⟨rfl, hJx3⟩)
      · gi_wp2
        have hrg3 := hrg2.of_walks hk3
        go_roundw
        case rel => exact ⟨_, cnt2, ps ++ [(x, i)], hrg3, by simp; omega, hC2, hV2, by simpa using hJ3⟩
        case measure => rw [hrg3.left_eq, hrg.left_eq]; exact hlt
      · gi_wp2
        refine bodyPost_ret (results_none rfl _ _ _) rfl ?_
        exact ⟨⟨_, rfl⟩, .inr ⟨_, trivial, hJx3⟩⟩
end Go.Proofs.YtnjcngmmgceijaaDoor
