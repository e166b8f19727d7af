/-
  Errors with a place as plain data: what the statements' own helpers (Fault, Placed, Same) answer at a reader's error.
-/
import Derived.Test.YtoaioijgmbhhnaaDoorVRdr
import Derived.Test.YtoaioijgmbhhnaaDoorIs
namespace Go.Proofs.YtoaioijgmbhhnaaDoor
open Go.RowKit

abbrev faultV (c : Int) (b : Bool) (q : Int) : Value := .agg #[.int .i64 c, .bool b, .int .i64 q]

set_option maxRecDepth 100000 in
theorem placed_any (c q : Int) (w : World) (hc : c ≠ 0) :
    Calls Tryd.prog 97 #[.int .i64 c, .int .i64 q] w fun e w' => e = .returned (faultV c true q) ∧ Below w.heap.size w w' := by
  have h1 : (c == 0) = false := by simp [hc]
  clear hc
  go_enter Tryd.func97, Tryd.ntmps97
  go_wp2_with fail
  go_returns
  exact ⟨rfl, balloc (Below.refl _ _) _⟩

set_option maxRecDepth 100000 in
theorem sameFault_eq (c : Int) (b : Bool) (q : Int) (w : World) :
    Calls Tryd.prog 65 #[faultV c b q, faultV c b q] w fun e w' => e = .returned (.bool true) ∧ Below w.heap.size w w' := by
  have h1 : (c == c) = true := by simp
  have h2 : (q == q) = true := by simp
  unfold faultV
  go_enter Tryd.func65, Tryd.ntmps65
  go_wp2_with fail
  go_ret
  exact ⟨by simp, balloc (balloc (Below.refl _ _) _) _⟩

theorem is_at (h : Nat) (W : World) : (Instr.typeAssert (atV h) 26 99 true).run Tryd.prog W = .ok (.tuple #[.pointer (some ⟨h, 0, none⟩), .bool true]) W := by
  kernel_rfl

set_option maxRecDepth 100000 in
set_option maxHeartbeats 1000000 in
theorem fault_at (w : World) (p : Nat → Addr) (hs : Sents w p) (h q k : Nat) (hk : k < 19) (hh : h < w.heap.size) (h0 : w.cell? ⟨h, 0, none⟩ = some (.int .i64 q)) (h1 : w.cell? ⟨h, 1, none⟩ = some (errV (p k))) :
    Calls Tryd.prog 66 #[atV h] w fun e w' => e = .returned (faultV ((101 + k : Nat) : Int) true q) ∧ Below w.heap.size w w' := by
  have k1 := eqn_nil 99 (.pointer (some ⟨h, 0, none⟩))
  have k2 := is_at h
  have k3 := eqn_nil 201 (.pointer (some (p k)))
  have HSE := hideE (fun W hb => sentinel_any W p (hs.below hb) k hk)
  have HPL := hideE (fun W => placed_any ((101 + k : Nat) : Int) q W (by omega))
  have hcode : ((101 + k : Nat) : Int) ≠ 0 := by omega
  clear hs hcode
  unfold errV atV at *
  generalize ((101 + k : Nat) : Int) = code at *
  go_enter Tryd.func66, Tryd.ntmps66
  go_upto_region 8 with fail
  have hb0 : Below w.heap.size w (w.alloc (.cells #[.int .i64 0, .bool false, .int .i64 0] 47)) := balloc (Below.refl _ _) _
  have HB0 := hideE hb0
  clear hb0 k1 k2
  refine wp_region_made [28, 29, 30, 31, 32, 33, 34, 35, 36, 37] (fun d => match d with
    | 28 => .is (.pointer (some ⟨h, 0, none⟩)) | 29 => .is (.pointer (some ⟨h, 0, none⟩)) | 30 => .is (.pointer (some ⟨h, 1, none⟩)) | 31 => .is (.iface 201 (.pointer (some (p k)))) | 32 => .is (.int .i64 code)
    | 33 => .is (.pointer (some ⟨h, 0, none⟩)) | 34 => .is (.pointer (some ⟨h, 0, none⟩)) | 35 => .is (.pointer (some ⟨h, 0, none⟩)) | 36 => .is (.int .i64 q) | 37 => .is (faultV code true q)
    | _ => .any) _ (by kernel_rfl) (by kernel_rfl) rfl (by kernel_rfl) ?_ ?_
  · simp only [List.size_toArray, List.length_cons, List.length_nil, List.take_succ_cons, List.take_zero, StepsOk]
    refine ⟨?_, ?_, ?_, ?_, ?_, ?_, ?_, ?_, ?_, ?_, trivial⟩
    all_goals
      intro ev w2 hb hev hd
      have ev3 : ev (.tmp 3) = .pointer (some ⟨h, 0, none⟩) := hev _ (by simp)
      have evf : ∀ f, ev (.func f) = .func (.func f) #[] #[] := fun f => hev _ (by simp)
      have hbw := HB0.out.trans (hb.mono HB0.out.size)
      have d0 := (hbw.cell (p := ⟨h, 0, none⟩) hh).trans h0
      have d1 := (hbw.cell (p := ⟨h, 1, none⟩) hh).trans h1
      have HB2 := hideE hbw
      clear hev hb hbw
      simp [DepsOk, Known.is] at hd
      try simp [OpRuns, execOp, go_sem, Known.is, Below.refl, *]
    · exact HSE.out w2 HB2.out
    · exact HPL.out w2
  · intro f w2 hb hf
    have e37 : f 37 = faultV code true q := hf 37 (by simp)
    obtain ⟨c0, c1, c2, f0, f1, f2, hb'⟩ := blk3 hb
    have HB2 := hideE hb'
    have hz : w.heap.size < w2.heap.size := by have := hb.size; simp at this; omega
    clear hf hb hb'
    obtain ⟨s0, s1, s2⟩ := set3 (.int .i64 code) (.bool true) (.int .i64 q) c0 c1 c2
    simp only [puts]
    unfold faultV at e37
    go_wp2_with fail
    refine bodyPost_ret (v := faultV code true q) (by simp [results, Tryd.results66, go_sem, s0, s1, s2]) rfl ⟨rfl, bset (bset (bset HB2.out _ _) _ _) _ _⟩

/-- A plain reader's fault. -/
def fltV (s : Vi.Rs) : Value := faultV (s.code : Int) s.pos.isSome ((s.pos.getD 0 : Nat) : Int)
theorem fault_err (w : World) (p : Nat → Addr) (hs : Sents w p) (g : Nat) (E : Value) (s : Vi.Rs) (he : ErrIs w p g E s) :
    Calls Tryd.prog 66 #[E] w fun e w' => e = .returned (fltV s) ∧ Below w.heap.size w w' := by
  rcases he with ⟨h1, h2, rfl⟩ | ⟨h1, h2, rfl⟩ | ⟨h, q, h1, h2, rfl, h3, h4, h5, h6⟩
  · refine (fault_nil w).mono fun e w' ⟨h, hb⟩ => ⟨?_, hb⟩
    rw [h]; unfold fltV; rw [h1, h2]; rfl
  · refine (fault_sent w p hs 0 (by omega)).mono fun e w' ⟨h, hb⟩ => ⟨?_, hb⟩
    rw [h]; unfold fltV; rw [h1, h2]; rfl
  · refine (fault_at w p hs h q (s.code - 101) (by omega) h4 h5 h6).mono fun e w' ⟨h, hb⟩ => ⟨?_, hb⟩
    rw [h]; unfold fltV; rw [h2, show 101 + (s.code - 101) = s.code by omega]; rfl

set_option maxRecDepth 100000 in
/-- 'Same', of what 'Fault' answers. -/
theorem same_of (v : Value) (c : Int) (b : Bool) (q : Int) (w : World) (hf : ∀ W, Below w.heap.size w W → Calls Tryd.prog 66 #[v] W fun e w' => e = .returned (faultV c b q) ∧ Below W.heap.size W w') :
    Calls Tryd.prog 22 #[v, faultV c b q] w fun e w' => e = .returned (.bool true) ∧ Below w.heap.size w w' := by
  have HF := hideE hf
  clear hf
  go_enter Tryd.func22, Tryd.ntmps22
  go_wp2_with fail
  refine wp_region_made [5, 6, 7, 8] (fun d => match d with | 5 => .is v | 6 => .is (faultV c b q) | 7 => .is (faultV c b q) | 8 => .is (.bool true) | _ => .any) _ (by kernel_rfl) (by kernel_rfl) rfl (by kernel_rfl) ?_ ?_
  · simp only [List.size_toArray, List.length_cons, List.length_nil, List.take_succ_cons, List.take_zero, StepsOk]
    refine ⟨?_, ?_, ?_, ?_, trivial⟩
    all_goals
      intro ev w2 hb hev hd
      have ev0 : ev (.tmp 0) = v := hev _ (by simp)
      have ev3 : ev (.tmp 3) = .pointer (some ⟨w.heap.size, 0, none⟩) := hev _ (by simp)
      have evf : ∀ f, ev (.func f) = .func (.func f) #[] #[] := fun f => hev _ (by simp)
      obtain ⟨c0, c1, c2, -, -, -, hb'⟩ := blk3 hb
      have HB' := hideE hb'
      clear hev hb hb'
      simp [DepsOk, Known.is] at hd
      try simp [OpRuns, execOp, go_sem, Known.is, Below.refl, *]
    · exact HF.out _ HB'.out
    · exact sameFault_eq c b q w2
  · intro f w2 hb hf
    obtain ⟨c0, c1, c2, -, -, -, hb'⟩ := blk3 hb
    have HB' := hideE hb'
    have e8 : f 8 = .bool true := hf 8 (by simp)
    clear hf hb hb' c0 c1 c2
    simp only [puts]
    go_wp2_with fail
    go_ret
    exact ⟨rfl, HB'.out⟩
theorem same_err (w : World) (p : Nat → Addr) (hs : Sents w p) (g : Nat) (E : Value) (s : Vi.Rs) (he : ErrIs w p g E s) :
    Calls Tryd.prog 22 #[E, fltV s] w fun e w' => e = .returned (.bool true) ∧ Below w.heap.size w w' :=
  same_of E _ _ _ w fun W hb => fault_err W p (hs.below hb) g E s (he.but (But.of_below hb))
end Go.Proofs.YtoaioijgmbhhnaaDoor
