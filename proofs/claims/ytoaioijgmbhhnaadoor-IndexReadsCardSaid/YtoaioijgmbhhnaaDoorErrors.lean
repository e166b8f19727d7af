/-
  Errors as plain data: what the statements' own helpers (Is, Same, Fault, sentinel) answer at nil and at the package's errors as they are laid.
-/
import Derived.Test.YtoaioijgmbhhnaaDoorRows
import Derived.WalkKit
import Derived.ProofKit
import Derived.Below
import Derived.LoopTactic
import Derived.Deep.Draws
import Derived.LaidEqlPtr
import Derived.Outline
import Derived.Test.YtoaioijgmbhhnaaDoorRegion
import Derived.Test.YtoaioijgmbhhnaaDoorWords
namespace Go.Proofs.YtoaioijgmbhhnaaDoor
open Go.RowKit

/-- An error of errors.New at an address. -/
def errV (p : Addr) : Value := .iface 201 (.pointer (some p))
/-- The errors' variables, in the order in which they are asked. -/
def gs : List Nat := [6, 7, 4, 11, 0, 1, 8, 2, 3, 5, 12, 13, 14, 15, 16, 17, 18, 19, 20]

/-- Some of the nineteen errors, as the program lays them: each its own pointer. -/
structure SentsOn (S : Nat → Prop) (w : World) (p : Nat → Addr) : Prop where
  cell : ∀ j, S j → w.cell? ⟨gs.getD j 0, 0, none⟩ = some (errV (p j))
  blk : ∀ j, S j → (p j).block < w.heap.size ∧ ∃ c t, w.heap[(p j).block]? = some (.cells c t (0, 0))
  ne : ∀ i j, S i → S j → i ≠ j → p i ≠ p j
/-- All of them. -/
abbrev Sents (w : World) (p : Nat → Addr) : Prop := SentsOn (fun j => j < 19) w p
/-- The first five: those that readers and batches tell. -/
abbrev Sents5 (w : World) (p : Nat → Addr) : Prop := SentsOn (fun j => j < 5) w p
/-- Those that a batch's Valid tells. -/
abbrev Sents2 (w : World) (p : Nat → Addr) : Prop := SentsOn (fun j => j = 3 ∨ j = 4) w p
theorem SentsOn.mono {S T : Nat → Prop} {w : World} {p : Nat → Addr} (h : SentsOn S w p) (hT : ∀ j, T j → S j) : SentsOn T w p :=
  ⟨fun j hj => h.cell j (hT j hj), fun j hj => h.blk j (hT j hj), fun i j hi hj => h.ne i j (hT i hi) (hT j hj)⟩
/-- Those that a reader of numbers tells, and those that a sealed text's Open tells. -/
abbrev SentsV (w : World) (p : Nat → Addr) : Prop := SentsOn (fun j => j = 0 ∨ j = 2 ∨ j = 4) w p
abbrev SentsO (w : World) (p : Nat → Addr) : Prop := SentsOn (fun j => j < 2) w p
instance sents5_v (w : World) (p : Nat → Addr) : Coe (SentsOn (fun j => j < 5) w p) (SentsOn (fun j => j = 0 ∨ j = 2 ∨ j = 4) w p) := ⟨fun h => h.mono fun j hj => by omega⟩
instance sents_o (w : World) (p : Nat → Addr) : Coe (SentsOn (fun j => j < 19) w p) (SentsOn (fun j => j < 2) w p) := ⟨fun h => h.mono fun j hj => by omega⟩
theorem SentsOn.five {w : World} {p : Nat → Addr} (h : Sents w p) : Sents5 w p := h.mono fun j hj => by omega
theorem SentsOn.two {w : World} {p : Nat → Addr} (h : Sents5 w p) : Sents2 w p := h.mono fun j hj => by omega

theorem SentsOn.size {S : Nat → Prop} {w : World} {p : Nat → Addr} (h : SentsOn S w p) (j : Nat) (hj : S j) : gs.getD j 0 < w.heap.size := by
  have hc := h.cell j hj
  generalize gs.getD j 0 = g at *
  rcases Nat.lt_or_ge g w.heap.size with h | h
  · exact h
  · simp [World.cell?, Array.getElem?_eq_none h] at hc
theorem SentsOn.below {S : Nat → Prop} {w w' : World} {p : Nat → Addr} (h : SentsOn S w p) (hb : Below w.heap.size w w') : SentsOn S w' p :=
  ⟨fun j hj => (hb.cell (p := ⟨gs.getD j 0, 0, none⟩) (h.size j hj)).trans (h.cell j hj),
   fun j hj => by
    obtain ⟨h1, c, t, h2⟩ := h.blk j hj
    exact ⟨Nat.lt_of_lt_of_le h1 hb.size, c, t, (hb.block _ h1).trans h2⟩, h.ne⟩

theorem es_pointee : Tryd.prog.underlying 201 = some (.pointer 217) := by kernel_rfl
theorem es_facts : ∃ ms i j, Tryd.prog.underlying 26 = some (.interface ms) ∧ Tryd.prog.info? 201 = some i ∧ i.comparable = true ∧ Tryd.prog.info? 217 = some j ∧ j.size ≠ 0 := by
  have h1 : (match Tryd.prog.underlying 26 with | some (.interface _) => true | _ => false) = true := by kernel_rfl
  have h2 : (Tryd.prog.info? 201).map (·.comparable) = some true := by kernel_rfl
  have h3 : (Tryd.prog.info? 217).map (·.size) = some 1 := by kernel_rfl
  obtain ⟨i, h4, h5⟩ := Option.map_eq_some_iff.1 h2
  obtain ⟨j, h6, h7⟩ := Option.map_eq_some_iff.1 h3
  cases hu : Tryd.prog.underlying 26 with
  | none => rw [hu] at h1; cases h1
  | some u =>
    rw [hu] at h1
    cases u with
    | interface ms => exact ⟨ms, i, j, rfl, h4, h5, h6, by omega⟩
    | _ => cases h1
theorem eql_same (a : Addr) (w : World) : (binOp .eql 26 (errV a) (errV a)).run Tryd.prog w = .ok (.bool true) w := by
  obtain ⟨ms, i, j, h1, h2, h3, h4, h5⟩ := es_facts
  exact run_eql_iface_ptr_same w a h1 es_pointee h2 h3 h4
theorem eql_other (a b : Addr) (w : World) (hne : a ≠ b) (ha : ∃ c t, w.heap[a.block]? = some (.cells c t (0, 0))) (hb : ∃ c t, w.heap[b.block]? = some (.cells c t (0, 0))) : (binOp .eql 26 (errV a) (errV b)).run Tryd.prog w = .ok (.bool false) w := by
  obtain ⟨ms, i, j, h1, h2, h3, h4, h5⟩ := es_facts
  obtain ⟨c, t, hc⟩ := ha
  obtain ⟨c', t', hc'⟩ := hb
  exact run_eql_iface_ptr_other w h1 es_pointee h2 h3 h4 h5 hne hc hc'
theorem eql_nil (a : Addr) (w : World) : (binOp .eql 26 (errV a) .nilIface).run Tryd.prog w = .ok (.bool false) w := by
  obtain ⟨ms, i, j, h1, h2, h3, h4, h5⟩ := es_facts
  have h : ∀ d : Nat, (Op.equalIn (d + 1) 26 (errV a) .nilIface).run Tryd.prog w = .ok false w := fun d => by simp [Op.equalIn, run_underlying h1, errV]
  simp only [binOp]
  simp [Op.equal, Op.maxDepth, h 9999]

theorem alike_eq (a : Addr) (w : World) :
    Calls Tryd.prog 112 #[errV a, errV a] w fun e w' => e = .returned (.bool true) ∧ w = w' := by
  have k1 := eql_nil a
  have k2 := eql_same a
  unfold errV at *
  go_enter Tryd.func112, Tryd.ntmps112
  go_wp2_with fail
  go_ret
  exact ⟨rfl, rfl⟩
theorem alike_ne (a b : Addr) (w : World) (hne : a ≠ b) (ha : ∃ c t, w.heap[a.block]? = some (.cells c t (0, 0))) (hb : ∃ c t, w.heap[b.block]? = some (.cells c t (0, 0))) :
    Calls Tryd.prog 112 #[errV a, errV b] w fun e w' => e = .returned (.bool false) ∧ w = w' := by
  have k1 := eql_nil a
  have k2 := eql_nil b
  have k3 := eql_other a b w hne ha hb
  clear hne ha hb
  unfold errV at *
  go_enter Tryd.func112, Tryd.ntmps112
  go_wp2_with fail
  go_ret
  exact ⟨rfl, rfl⟩
def errCells (p : Nat → Addr) : Array Value := #[errV (p 0), errV (p 1), errV (p 2), errV (p 3), errV (p 4), errV (p 5), errV (p 6), errV (p 7), errV (p 8), errV (p 9), errV (p 10), errV (p 11), errV (p 12), errV (p 13), errV (p 14), errV (p 15), errV (p 16), errV (p 17), errV (p 18)]
theorem errCells_at (p : Nat → Addr) (j : Nat) (hj : j < 19) : (errCells p)[j]? = some (errV (p j)) := by
  match j, hj with
  | 0, _ => rfl
  | 1, _ => rfl
  | 2, _ => rfl
  | 3, _ => rfl
  | 4, _ => rfl
  | 5, _ => rfl
  | 6, _ => rfl
  | 7, _ => rfl
  | 8, _ => rfl
  | 9, _ => rfl
  | 10, _ => rfl
  | 11, _ => rfl
  | 12, _ => rfl
  | 13, _ => rfl
  | 14, _ => rfl
  | 15, _ => rfl
  | 16, _ => rfl
  | 17, _ => rfl
  | 18, _ => rfl
  | j + 19, h => omega

set_option maxHeartbeats 1000000 in
theorem sentinels_any (w : World) (p : Nat → Addr) (h : Sents w p) :
    Calls Tryd.prog 111 #[] w fun e w' => e = .returned (.slice (some ⟨w.heap.size, 0, none⟩) 19 19) ∧ w.alloc (.cells (errCells p) 26) = w' := by
  have c0 : w.cell? ⟨6, 0, none⟩ = some (errV (p 0)) := h.cell 0 (by omega)
  have c1 : w.cell? ⟨7, 0, none⟩ = some (errV (p 1)) := h.cell 1 (by omega)
  have c2 : w.cell? ⟨4, 0, none⟩ = some (errV (p 2)) := h.cell 2 (by omega)
  have c3 : w.cell? ⟨11, 0, none⟩ = some (errV (p 3)) := h.cell 3 (by omega)
  have c4 : w.cell? ⟨0, 0, none⟩ = some (errV (p 4)) := h.cell 4 (by omega)
  have c5 : w.cell? ⟨1, 0, none⟩ = some (errV (p 5)) := h.cell 5 (by omega)
  have c6 : w.cell? ⟨8, 0, none⟩ = some (errV (p 6)) := h.cell 6 (by omega)
  have c7 : w.cell? ⟨2, 0, none⟩ = some (errV (p 7)) := h.cell 7 (by omega)
  have c8 : w.cell? ⟨3, 0, none⟩ = some (errV (p 8)) := h.cell 8 (by omega)
  have c9 : w.cell? ⟨5, 0, none⟩ = some (errV (p 9)) := h.cell 9 (by omega)
  have c10 : w.cell? ⟨12, 0, none⟩ = some (errV (p 10)) := h.cell 10 (by omega)
  have c11 : w.cell? ⟨13, 0, none⟩ = some (errV (p 11)) := h.cell 11 (by omega)
  have c12 : w.cell? ⟨14, 0, none⟩ = some (errV (p 12)) := h.cell 12 (by omega)
  have c13 : w.cell? ⟨15, 0, none⟩ = some (errV (p 13)) := h.cell 13 (by omega)
  have c14 : w.cell? ⟨16, 0, none⟩ = some (errV (p 14)) := h.cell 14 (by omega)
  have c15 : w.cell? ⟨17, 0, none⟩ = some (errV (p 15)) := h.cell 15 (by omega)
  have c16 : w.cell? ⟨18, 0, none⟩ = some (errV (p 16)) := h.cell 16 (by omega)
  have c17 : w.cell? ⟨19, 0, none⟩ = some (errV (p 17)) := h.cell 17 (by omega)
  have c18 : w.cell? ⟨20, 0, none⟩ = some (errV (p 18)) := h.cell 18 (by omega)
  unfold errCells
  clear h
  unfold errV at *
  generalize p 0 = q0 at *
  generalize p 1 = q1 at *
  generalize p 2 = q2 at *
  generalize p 3 = q3 at *
  generalize p 4 = q4 at *
  generalize p 5 = q5 at *
  generalize p 6 = q6 at *
  generalize p 7 = q7 at *
  generalize p 8 = q8 at *
  generalize p 9 = q9 at *
  generalize p 10 = q10 at *
  generalize p 11 = q11 at *
  generalize p 12 = q12 at *
  generalize p 13 = q13 at *
  generalize p 14 = q14 at *
  generalize p 15 = q15 at *
  generalize p 16 = q16 at *
  generalize p 17 = q17 at *
  generalize p 18 = q18 at *
  go_enter Tryd.func111, Tryd.ntmps111
  go_wp2_with fail
  go_ret
  exact ⟨rfl, rfl⟩

theorem sentinel_any (w : World) (p : Nat → Addr) (h : Sents w p) (k : Nat) (hk : k < 19) :
    Calls Tryd.prog 96 #[errV (p k)] w fun e w' => e = .returned (.int .i64 ((101 + k : Nat) : Int)) ∧ Below w.heap.size w w' := by
  have HS := hideE h
  have hcell : ∀ j, j < 19 → (w.alloc (.cells (errCells p) 26)).cell? ⟨w.heap.size, j, none⟩ = some (errV (p j)) := fun j hj => by
    rw [World.cell?_alloc_mark]; exact errCells_at p j hj
  have hblk : ∀ j, j < 19 → ∃ c t, (w.alloc (.cells (errCells p) 26)).heap[(p j).block]? = some (.cells c t (0, 0)) := fun j hj => by
    obtain ⟨h1, c, t, h2⟩ := h.blk j hj
    exact ⟨c, t, by rw [Below.heap_alloc _ _ _ h1]; exact h2⟩
  have HC := hideE hcell
  have HB := hideE hblk
  have hbl : Below w.heap.size w (w.alloc (.cells (errCells p) 26)) := balloc (Below.refl _ _) _
  have HBL := hideE hbl
  have HSE := hideE (sentinels_any w p h)
  clear h hcell hblk hbl
  generalize hw1 : w.alloc (.cells (errCells p) 26) = w1 at *
  clear hw1
  go_enter Tryd.func96, Tryd.ntmps96
  go_wp2_with (go_at_call 111; refine HSE.out.mono ?_; rintro e w' ⟨rfl, rfl⟩)
  go_loopw [4] (fun i wr => ∃ j : Nat, j ≤ k ∧ i = .int .i64 j ∧ w1 = wr) (fun i _ => 19 - (intOf i).toNat)
  case atStart => exact ⟨0, Nat.zero_le _, rfl, rfl⟩
  case round =>
    obtain ⟨j, hj, rfl, rfl⟩ := hrel
    have hc := HC.out j (by omega)
    by_cases hjk : j = k
    · subst hjk
      have HA := hideE (alike_eq (p j) w1)
      unfold errV at *
      go_wp2_with (go_at_call 112; refine HA.out.mono ?_; rintro e w' ⟨rfl, rfl⟩)
      go_ret
      exact ⟨by simp, HBL.out⟩
    · have HA := hideE (alike_ne (p k) (p j) w1 (HS.out.ne k j hk (by omega) (fun e => hjk e.symm)) (HB.out k hk) (HB.out j (by omega)))
      unfold errV at *
      have hlt : j < k := by omega
      clear hjk
      go_wp2_with (go_at_call 112; refine HA.out.mono ?_; rintro e w' ⟨rfl, rfl⟩)
      go_roundw
      case rel => exact ⟨j + 1, by omega, by go_num, trivial⟩
      case measure => simp [intOf]; omega

end Go.Proofs.YtoaioijgmbhhnaaDoor
