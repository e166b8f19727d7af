/-
  The statements' own helper 'Is': nil is Fine's number alone, an error of the package its own number alone.
-/
import Derived.Test.YteeadlefbehhfaaDoorErrors
import Derived.Handy
import Derived.Deep.QuietTactic
import Derived.BigQuiet
namespace Go.Proofs.YteeadlefbehhfaaDoor
open Go.RowKit

/-- A fault with nothing around it. -/
abbrev bareV (code : Int) : Value := .agg #[.int .i64 code, .bool false, .int .i64 0]

theorem bare_any (code : Int) (w : World) :
    Calls Tryd.prog 37 #[.int .i64 code] w fun e w' => e = .returned (bareV code) ∧ Below w.heap.size w w' := by
  go_enter Tryd.func37, Tryd.ntmps37
  go_wp2_with fail
  go_returns
  exact ⟨rfl, balloc (Below.refl _ _) _⟩
theorem none_any (w : World) :
    Calls Tryd.prog 46 #[] w fun e w' => e = .returned (bareV 0) ∧ Below w.heap.size w w' := by
  go_enter Tryd.func46, Tryd.ntmps46
  go_wp2_with fail
  go_returns
  exact ⟨rfl, balloc (Below.refl _ _) _⟩
theorem sameFault_any (a b : Int) (w : World) :
    Calls Tryd.prog 47 #[bareV a, bareV b] w fun e w' => e = .returned (.bool (decide (a = b))) ∧ Below w.heap.size w w' := by
  unfold bareV
  by_cases h : a = b
  · subst h
    go_enter Tryd.func47, Tryd.ntmps47
    go_wp2_with fail
    go_ret
    exact ⟨by simp, balloc (balloc (Below.refl _ _) _) _⟩
  · have h1 : (a == b) = false := by simp [h]
    have hd : decide (a = b) = false := by simp [h]
    rw [hd]
    clear h hd
    go_enter Tryd.func47, Tryd.ntmps47
    go_wp2_with fail
    go_ret
    exact ⟨rfl, balloc (balloc (Below.refl _ _) _) _⟩

theorem blk3 {w w' : World} {a b c : Value} {t : TypeId} (hb : Below (w.alloc (.cells #[a, b, c] t)).heap.size (w.alloc (.cells #[a, b, c] t)) w') :
    w'.cell? ⟨w.heap.size, 0, none⟩ = some a ∧ w'.cell? ⟨w.heap.size, 1, none⟩ = some b ∧ w'.cell? ⟨w.heap.size, 2, none⟩ = some c ∧
    w'.frozen? ⟨w.heap.size, 0, none⟩ = false ∧ w'.frozen? ⟨w.heap.size, 1, none⟩ = false ∧ w'.frozen? ⟨w.heap.size, 2, none⟩ = false ∧ Below w.heap.size w w' := by
  have hblk := hb.block w.heap.size (by simp)
  rw [heap_alloc_new] at hblk
  refine ⟨?_, ?_, ?_, ?_, ?_, ?_, (balloc (Below.refl _ _) _).trans (hb.mono (by simp))⟩ <;> simp [World.cell?, World.frozen?, hblk]
/-- A block of three cells, stored into cell by cell, reads as what was stored. -/
theorem set3 {w' : World} {g : Nat} {a b c : Value} (x y z : Value) (c0 : w'.cell? ⟨g, 0, none⟩ = some a) (c1 : w'.cell? ⟨g, 1, none⟩ = some b) (c2 : w'.cell? ⟨g, 2, none⟩ = some c) :
    (w'.setCell ⟨g, 0, none⟩ x).cell? ⟨g, 0, none⟩ = some x ∧ ((w'.setCell ⟨g, 0, none⟩ x).setCell ⟨g, 1, none⟩ y).cell? ⟨g, 1, none⟩ = some y ∧
    (((w'.setCell ⟨g, 0, none⟩ x).setCell ⟨g, 1, none⟩ y).setCell ⟨g, 2, none⟩ z).cell? ⟨g, 2, none⟩ = some z := by
  refine ⟨World.cell?_setCell_same _ _ _ c0, World.cell?_setCell_same _ _ _ (u := b) ?_, World.cell?_setCell_same _ _ _ (u := c) ?_⟩
  · rw [World.cell?_setCell_other _ _ _ _ (by simp)]; exact c1
  · rw [World.cell?_setCell_other _ _ _ _ (by simp), World.cell?_setCell_other _ _ _ _ (by simp)]; exact c2
theorem bset {a w : World} (h : Below a.heap.size a w) (i : Nat) (v : Value) : Below a.heap.size a (w.setCell ⟨a.heap.size, i, none⟩ v) := h.setCell (Nat.le_refl _) v

/-- An error of errors.New is no error with a place. -/
theorem no_at (a : Addr) (W : World) : (Instr.typeAssert (errV a) 26 74 true).run Tryd.prog W = .ok (.tuple #[.pointer none, .bool false]) W := by
  kernel_rfl

theorem fault_nil (w : World) :
    Calls Tryd.prog 48 #[.nilIface] w fun e w' => e = .returned (bareV 0) ∧ Below w.heap.size w w' := by
  go_enter Tryd.func48, Tryd.ntmps48
  go_wp2_with fail
  refine (none_any _).mono ?_
  rintro e w' ⟨rfl, hb⟩
  obtain ⟨c0, c1, c2, f0, f1, f2, hb'⟩ := blk3 hb
  have HB := hideE hb'
  clear hb hb'
  go_wp2_with fail
  obtain ⟨s0, s1, s2⟩ := set3 (.int .i64 0) (.bool false) (.int .i64 0) c0 c1 c2
  refine bodyPost_ret (v := bareV 0) (by simp [results, Tryd.results48, go_sem, s0, s1, s2]) rfl ⟨rfl, bset (bset (bset HB.out _ _) _ _) _ _⟩
theorem fault_sent (w : World) (p : Nat → Addr) (h : Sents w p) (k : Nat) (hk : k < 19) :
    Calls Tryd.prog 48 #[errV (p k)] w fun e w' => e = .returned (bareV ((101 + k : Nat) : Int)) ∧ Below w.heap.size w w' := by
  have k1 := eql_nil (p k)
  have k2 := no_at (p k)
  have HS := hideE h
  clear h
  have HSE := hideE (fun W hb => sentinel_any W p (HS.out.below hb) k hk)
  unfold errV at *
  go_enter Tryd.func48, Tryd.ntmps48
  go_wp2_with fail
  refine (HSE.out _ (balloc (Below.refl _ _) _)).mono ?_
  rintro e w1 ⟨rfl, hb⟩
  obtain ⟨c0, c1, c2, f0, f1, f2, hb'⟩ := blk3 hb
  have HB := hideE hb'
  have hz : w.heap.size < w1.heap.size := by have := hb.size; simp at this; omega
  clear hb hb'
  generalize hcode : ((101 + k : Nat) : Int) = code at *
  have HCODE := hideE hcode
  clear hcode
  go_wp2_with fail
  refine (bare_any code _).mono ?_
  rintro e w2 ⟨rfl, hb⟩
  have d0 := (hb.cell (p := ⟨w.heap.size, 0, none⟩) hz).trans c0
  have d1 := (hb.cell (p := ⟨w.heap.size, 1, none⟩) hz).trans c1
  have d2 := (hb.cell (p := ⟨w.heap.size, 2, none⟩) hz).trans c2
  have e0 := (hb.frozen (p := ⟨w.heap.size, 0, none⟩) hz).trans f0
  have e1 := (hb.frozen (p := ⟨w.heap.size, 1, none⟩) hz).trans f1
  have e2 := (hb.frozen (p := ⟨w.heap.size, 2, none⟩) hz).trans f2
  have HB2 := hideE (HB.out.trans (hb.mono HB.out.size))
  clear hb c0 c1 c2 f0 f1 f2 k1 k2
  go_wp2_with fail
  obtain ⟨s0, s1, s2⟩ := set3 (.int .i64 code) (.bool false) (.int .i64 0) d0 d1 d2
  refine bodyPost_ret (v := bareV code) (by simp [results, Tryd.results48, go_sem, s0, s1, s2]) rfl ⟨by rw [HCODE.out], bset (bset (bset HB2.out _ _) _ _) _ _⟩

/-- 'Is', by what 'Fault' answers. -/
theorem is_of (v : Value) (a c : Int) (w : World) (hf : ∀ W, Below w.heap.size w W → Calls Tryd.prog 48 #[v] W fun e w' => e = .returned (bareV a) ∧ Below W.heap.size W w') :
    Calls Tryd.prog 24 #[v, .int .i64 c] w fun e w' => e = .returned (.bool (decide (a = c))) ∧ Below w.heap.size w w' := by
  have HF := hideE hf
  clear hf
  go_enter Tryd.func24, Tryd.ntmps24
  go_wp2_with fail
  refine (bare_any c _).mono ?_
  rintro e w1 ⟨rfl, hb1⟩
  have HB1 := hideE hb1
  clear hb1
  go_wp2_with fail
  have same : Calls Tryd.prog 12 #[v, bareV c] w1 fun e w' => e = .returned (.bool (decide (a = c))) ∧ Below w.heap.size w w' := by
    go_enter Tryd.func12, Tryd.ntmps12
    go_wp2_with fail
    refine wp_region_made [5, 6, 7, 8] (fun d => match d with | 5 => .is v | 6 => .is (bareV a) | 7 => .is (bareV c) | 8 => .is (.bool (decide (a = c))) | _ => .any) _ (by kernel_rfl) (by kernel_rfl) rfl (by kernel_rfl) ?_ ?_
    · simp only [List.size_toArray, List.length_cons, List.length_nil, List.take_succ_cons, List.take_zero, StepsOk]
      refine ⟨?_, ?_, ?_, ?_, trivial⟩
      all_goals
        intro ev w2 hb hev hd
        have ev0 : ev (.tmp 0) = v := hev _ (by simp)
        have ev3 : ev (.tmp 3) = .pointer (some ⟨w1.heap.size, 0, none⟩) := hev _ (by simp)
        have evf : ∀ f, ev (.func f) = .func (.func f) #[] #[] := fun f => hev _ (by simp)
        obtain ⟨c0, c1, c2, -, -, -, hb'⟩ := blk3 hb
        have HB' := hideE hb'
        clear hev hb hb'
        simp [DepsOk, Known.is] at hd
        try simp [OpRuns, execOp, go_sem, Known.is, Below.refl, *]
      · exact HF.out _ (HB1.out.trans (HB'.out.mono HB1.out.size))
      · exact sameFault_any a c w2
    · intro f w2 hb hf
      obtain ⟨c0, c1, c2, -, -, -, hb'⟩ := blk3 hb
      have HB' := hideE (HB1.out.trans (hb'.mono HB1.out.size))
      have e8 : f 8 = .bool (decide (a = c)) := hf 8 (by simp)
      clear hf hb hb' c0 c1 c2
      generalize hdd : decide (a = c) = d at *
      have HD := hideE hdd
      clear hdd
      simp only [puts]
      go_wp2_with fail
      go_ret
      exact ⟨by rw [HD.out]; rfl, HB'.out⟩
  refine same.mono ?_
  rintro e w2 ⟨rfl, hb2⟩
  have HB2 := hideE hb2
  clear hb2
  generalize hdd : decide (a = c) = d at *
  have HD := hideE hdd
  clear hdd
  go_wp2_with fail
  go_ret
  exact ⟨by rw [HD.out]; rfl, HB2.out⟩

theorem is_nil (c : Int) (w : World) :
    Calls Tryd.prog 24 #[.nilIface, .int .i64 c] w fun e w' => e = .returned (.bool (decide (0 = c))) ∧ Below w.heap.size w w' :=
  is_of .nilIface 0 c w fun W _ => fault_nil W
theorem is_sent (w : World) (p : Nat → Addr) (h : Sents w p) (k : Nat) (hk : k < 19) (c : Int) :
    Calls Tryd.prog 24 #[errV (p k), .int .i64 c] w fun e w' => e = .returned (.bool (decide (((101 + k : Nat) : Int) = c))) ∧ Below w.heap.size w w' :=
  is_of (errV (p k)) _ c w fun W hb => fault_sent W p (h.below hb) k hk
end Go.Proofs.YteeadlefbehhfaaDoor
