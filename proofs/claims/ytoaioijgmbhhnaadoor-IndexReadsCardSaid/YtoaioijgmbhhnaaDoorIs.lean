/-
  The statements' own helper 'Is': nil is Fine's number alone, an error of the package its own number alone.
-/
import Derived.Test.YtoaioijgmbhhnaaDoorErrors
import Derived.Handy
import Derived.Deep.QuietTactic
import Derived.BigQuiet
namespace Go.Proofs.YtoaioijgmbhhnaaDoor
open Go.RowKit

/-- A fault with nothing around it. -/
abbrev bareV (code : Int) : Value := .agg #[.int .i64 code, .bool false, .int .i64 0]

theorem bare_any (code : Int) (w : World) :
    Calls Tryd.prog 55 #[.int .i64 code] w fun e w' => e = .returned (bareV code) ∧ Below w.heap.size w w' := by
  go_enter Tryd.func55, Tryd.ntmps55
  go_wp2_with fail
  go_returns
  exact ⟨rfl, balloc (Below.refl _ _) _⟩
theorem none_any (w : World) :
    Calls Tryd.prog 64 #[] w fun e w' => e = .returned (bareV 0) ∧ Below w.heap.size w w' := by
  go_enter Tryd.func64, Tryd.ntmps64
  go_wp2_with fail
  go_returns
  exact ⟨rfl, balloc (Below.refl _ _) _⟩
theorem sameFault_any (a b : Int) (w : World) :
    Calls Tryd.prog 65 #[bareV a, bareV b] w fun e w' => e = .returned (.bool (decide (a = b))) ∧ Below w.heap.size w w' := by
  unfold bareV
  by_cases h : a = b
  · subst h
    go_enter Tryd.func65, Tryd.ntmps65
    go_wp2_with fail
    go_ret
    exact ⟨by simp, balloc (balloc (Below.refl _ _) _) _⟩
  · have h1 : (a == b) = false := by simp [h]
    have hd : decide (a = b) = false := by simp [h]
    rw [hd]
    clear h hd
    go_enter Tryd.func65, Tryd.ntmps65
    go_wp2_with fail
    go_ret
    exact ⟨rfl, balloc (balloc (Below.refl _ _) _) _⟩

theorem blk3 {w w' : World} {a b c : Value} {t : TypeId} (hb : Below (w.alloc (.cells #[a, b, c] t)).heap.size (w.alloc (.cells #[a, b, c] t)) w') :
    w'.cell? ⟨w.heap.size, 0, none⟩ = some a ∧ w'.cell? ⟨w.heap.size, 1, none⟩ = some b ∧ w'.cell? ⟨w.heap.size, 2, none⟩ = some c ∧
    w'.frozen? ⟨w.heap.size, 0, none⟩ = false ∧ w'.frozen? ⟨w.heap.size, 1, none⟩ = false ∧ w'.frozen? ⟨w.heap.size, 2, none⟩ = false ∧ Below w.heap.size w w' := by
  have hblk := hb.block w.heap.size (by simp)
  rw [heap_alloc_new] at hblk
  refine ⟨?_, ?_, ?_, ?_, ?_, ?_, (balloc (Below.refl _ _) _).trans (hb.mono (by simp))⟩ <;> simp [World.cell?, World.frozen?, hblk]
/-- A block of three cells, stored into cell by cell, reads as what was stored. -/
theorem set3 {w' : World} {g : Nat} {a b c : Value} (x y z : Value) (c0 : w'.cell? ⟨g, 0, none⟩ = some a) (c1 : w'.cell? ⟨g, 1, none⟩ = some b) (c2 : w'.cell? ⟨g, 2, none⟩ = some c) :
    (w'.setCell ⟨g, 0, none⟩ x).cell? ⟨g, 0, none⟩ = some x ∧ ((w'.setCell ⟨g, 0, none⟩ x).setCell ⟨g, 1, none⟩ y).cell? ⟨g, 1, none⟩ = some y ∧
    (((w'.setCell ⟨g, 0, none⟩ x).setCell ⟨g, 1, none⟩ y).setCell ⟨g, 2, none⟩ z).cell? ⟨g, 2, none⟩ = some z := by
  refine ⟨World.cell?_setCell_same _ _ _ c0, World.cell?_setCell_same _ _ _ (u := b) ?_, World.cell?_setCell_same _ _ _ (u := c) ?_⟩
  · rw [World.cell?_setCell_other _ _ _ _ (by simp)]; exact c1
  · rw [World.cell?_setCell_other _ _ _ _ (by simp), World.cell?_setCell_other _ _ _ _ (by simp)]; exact c2
theorem bset {a w : World} (h : Below a.heap.size a w) (i : Nat) (v : Value) : Below a.heap.size a (w.setCell ⟨a.heap.size, i, none⟩ v) := h.setCell (Nat.le_refl _) v

/-- An error of errors.New is no error with a place. -/
theorem no_at (a : Addr) (W : World) : (Instr.typeAssert (errV a) 26 99 true).run Tryd.prog W = .ok (.tuple #[.pointer none, .bool false]) W := by
  kernel_rfl

theorem fault_nil (w : World) :
    Calls Tryd.prog 66 #[.nilIface] w fun e w' => e = .returned (bareV 0) ∧ Below w.heap.size w w' := by
  go_enter Tryd.func66, Tryd.ntmps66
  go_wp2_with fail
  refine (none_any _).mono ?_
  rintro e w' ⟨rfl, hb⟩
  obtain ⟨c0, c1, c2, f0, f1, f2, hb'⟩ := blk3 hb
  have HB := hideE hb'
  clear hb hb'
  go_wp2_with fail
  obtain ⟨s0, s1, s2⟩ := set3 (.int .i64 0) (.bool false) (.int .i64 0) c0 c1 c2
  refine bodyPost_ret (v := bareV 0) (by simp [results, Tryd.results66, go_sem, s0, s1, s2]) rfl ⟨rfl, bset (bset (bset HB.out _ _) _ _) _ _⟩
theorem fault_sent (w : World) (p : Nat → Addr) (h : Sents w p) (k : Nat) (hk : k < 19) :
    Calls Tryd.prog 66 #[errV (p k)] w fun e w' => e = .returned (bareV ((101 + k : Nat) : Int)) ∧ Below w.heap.size w w' := by
  have k1 := eql_nil (p k)
  have k2 := no_at (p k)
  have HS := hideE h
  clear h
  have HSE := hideE (fun W hb => sentinel_any W p (HS.out.below hb) k hk)
  unfold errV at *
  go_enter Tryd.func66, Tryd.ntmps66
  go_wp2_with fail
  refine (HSE.out _ (balloc (Below.refl _ _) _)).mono ?_
  rintro e w1 ⟨rfl, hb⟩
  obtain ⟨c0, c1, c2, f0, f1, f2, hb'⟩ := blk3 hb
  have HB := hideE hb'
  have hz : w.heap.size < w1.heap.size := by have := hb.size; simp at this; omega
  clear hb hb'
  generalize hcode : ((101 + k : Nat) : Int) = code at *
  have HCODE := hideE hcode
  clear hcode
  go_wp2_with fail
  refine (bare_any code _).mono ?_
  rintro e w2 ⟨rfl, hb⟩
  have d0 := (hb.cell (p := ⟨w.heap.size, 0, none⟩) hz).trans c0
  have d1 := (hb.cell (p := ⟨w.heap.size, 1, none⟩) hz).trans c1
  have d2 := (hb.cell (p := ⟨w.heap.size, 2, none⟩) hz).trans c2
  have e0 := (hb.frozen (p := ⟨w.heap.size, 0, none⟩) hz).trans f0
  have e1 := (hb.frozen (p := ⟨w.heap.size, 1, none⟩) hz).trans f1
  have e2 := (hb.frozen (p := ⟨w.heap.size, 2, none⟩) hz).trans f2
  have HB2 := hideE (HB.out.trans (hb.mono HB.out.size))
  clear hb c0 c1 c2 f0 f1 f2 k1 k2
  go_wp2_with fail
  obtain ⟨s0, s1, s2⟩ := set3 (.int .i64 code) (.bool false) (.int .i64 0) d0 d1 d2
  refine bodyPost_ret (v := bareV code) (by simp [results, Tryd.results66, go_sem, s0, s1, s2]) rfl ⟨by rw [HCODE.out], bset (bset (bset HB2.out _ _) _ _) _ _⟩

end Go.Proofs.YtoaioijgmbhhnaaDoor
