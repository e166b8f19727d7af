/-
  What stands ahead of a disk's calls: the power, the file of a name, whether a name may be.
-/
import Derived.Test.YtoaioijgmbhhnaaDoorDkH
import Derived.Test.YtoaioijgmbhhnaaDoorErrors
import Derived.Test.YtoaioijgmbhhnaaDoorIs
namespace Go.Proofs.YtoaioijgmbhhnaaDoor
open Go.RowKit Go.Maps

/-- An error that is nil, or one of the package's. -/
def errR (p : Nat → Addr) : Option Nat → Value
  | none => .nilIface
  | some j => errV (p j)
/-- The errors that a disk tells. -/
abbrev SentsD (w : World) (p : Nat → Addr) : Prop := SentsOn (fun j => 4 ≤ j ∧ j ≤ 9) w p
theorem SentsD.c9 {w : World} {p : Nat → Addr} (h : SentsD w p) : w.cell? ⟨5, 0, none⟩ = some (errV (p 9)) := h.cell 9 (by omega)
theorem SentsD.c8 {w : World} {p : Nat → Addr} (h : SentsD w p) : w.cell? ⟨3, 0, none⟩ = some (errV (p 8)) := h.cell 8 (by omega)
theorem SentsD.c7 {w : World} {p : Nat → Addr} (h : SentsD w p) : w.cell? ⟨2, 0, none⟩ = some (errV (p 7)) := h.cell 7 (by omega)
theorem SentsD.c6 {w : World} {p : Nat → Addr} (h : SentsD w p) : w.cell? ⟨8, 0, none⟩ = some (errV (p 6)) := h.cell 6 (by omega)
theorem SentsD.c5 {w : World} {p : Nat → Addr} (h : SentsD w p) : w.cell? ⟨1, 0, none⟩ = some (errV (p 5)) := h.cell 5 (by omega)
theorem SentsD.c4 {w : World} {p : Nat → Addr} (h : SentsD w p) : w.cell? ⟨0, 0, none⟩ = some (errV (p 4)) := h.cell 4 (by omega)

theorem box_cell {w : World} {b : Nat} {c : Array Value} {t : TypeId} {fz : Nat × Nat} (h : w.heap[b]? = some (.cells c t fz)) (k : Nat) : w.cell? ⟨b, k, none⟩ = c[k]? := by simp [World.cell?, h]
theorem box_free {w : World} {b : Nat} {c : Array Value} {t : TypeId} (h : w.heap[b]? = some (.cells c t (0, 0))) (k : Nat) : w.frozen? ⟨b, k, none⟩ = false := by simp [World.frozen?, h]

theorem begin_set {w : World} {Bd nb db : Nat} {sv : Value} {ids : List Nat} {row : Nat → Value} {s : Dk.St} {S : Nat → Prop} (h : DiskL w Bd nb db sv ids row s S) (a : Int) (d : Bool) :
    DiskL ((w.setCell ⟨Bd, 6, none⟩ (.int .i64 a)).setCell ⟨Bd, 7, none⟩ (.bool d)) Bd nb db sv ids row { s with armed := a, down := d } S :=
  (h.set 6 (.int .i64 a) { s with armed := a } rfl rfl rfl rfl rfl (Int.le_refl _)).set 7 (.bool d) { s with armed := a, down := d } rfl rfl rfl rfl rfl (Int.le_refl _)

set_option maxRecDepth 100000 in
theorem begin_any (Bd nb db : Nat) (sv : Value) (ids : List Nat) (row : Nat → Value) (s : Dk.St) (S : Nat → Prop) (p : Nat → Addr) (w : World) (hs : SentsD w p) (h : DiskL w Bd nb db sv ids row s S) (ha : -9223372036854775808 ≤ s.armed ∧ s.armed ≤ 9223372036854775807) (hB : Bd ≠ 5) :
    Calls Tryd.prog 28 #[.pointer (some ⟨Bd, 0, none⟩)] w fun e w' => e = .returned (errR p (if s.begin.down then some 9 else none)) ∧ DiskL w' Bd nb db sv ids row s.begin S ∧ Chg (fun k => k = Bd) w w' ∧ w'.heap.size = w.heap.size := by
  have c6 : w.cell? ⟨Bd, 6, none⟩ = some (.int .i64 s.armed) := box_cell h.box 6
  have c7 : w.cell? ⟨Bd, 7, none⟩ = some (.bool s.down) := box_cell h.box 7
  have f6 := box_free h.box 6
  have f7 := box_free h.box 7
  have g9 := hs.c9
  have HH := hide h
  obtain ⟨t, ht⟩ : ∃ t, t = s.begin := ⟨_, rfl⟩
  obtain ⟨r, hr⟩ : ∃ r : Option Nat, r = (if s.begin.down then some 9 else none) := ⟨_, rfl⟩
  rw [← hr, ← ht]
  have HT := hide ht
  have HR := hide hr
  clear h hs ht hr
  obtain ⟨room, names, dur, since, used, calls, armed, down, files⟩ := s
  simp only at c6 c7 ha
  have key : ∀ a d, t = { room, names, dur, since, used, calls, armed := a, down := d, files } → DiskL ((w.setCell ⟨Bd, 6, none⟩ (.int .i64 a)).setCell ⟨Bd, 7, none⟩ (.bool d)) Bd nb db sv ids row t S ∧ Chg (fun k => k = Bd) w ((w.setCell ⟨Bd, 6, none⟩ (.int .i64 a)).setCell ⟨Bd, 7, none⟩ (.bool d)) ∧ ((w.setCell ⟨Bd, 6, none⟩ (.int .i64 a)).setCell ⟨Bd, 7, none⟩ (.bool d)).heap.size = w.heap.size := fun a d e => by
    rw [e]
    exact ⟨begin_set HH.out a d, (Chg.setCell (S := fun k => k = Bd) w Bd 6 _ rfl).then (Chg.setCell (S := fun k => k = Bd) _ Bd 7 _ rfl), by simp⟩
  have KEY := hide key
  clear key
  by_cases h0 : 0 < armed
  · have hw : IntKind.i64.wrap (armed - 1) = armed - 1 := IntWalk.i64_in _ (by omega)
    cases down <;> by_cases h1 : armed - 1 = 0
    all_goals
      go_enter Tryd.func28, Tryd.ntmps28
      go_wp2_with fail
      go_ret
      exact ⟨by rw [HR.out]; simp [Dk.St.begin, h0, h1, errR], KEY.out _ _ (by rw [HT.out]; simp [Dk.St.begin, h0, h1])⟩
  · have key : t = { room, names, dur, since, used, calls, armed, down, files } := by rw [HT.out]; simp [Dk.St.begin, h0]
    have key2 : r = if down then some 9 else none := by rw [HR.out]; simp [Dk.St.begin, h0]
    have HK := hide key
    have HK2 := hide key2
    clear key key2
    cases down
    all_goals
      go_enter Tryd.func28, Tryd.ntmps28
      go_wp2_with fail
      go_ret
      exact ⟨by rw [HK2.out]; simp [errR], by rw [HK.out]; exact HH.out, Chg.refl _ _, rfl⟩
end Go.Proofs.YtoaioijgmbhhnaaDoor
