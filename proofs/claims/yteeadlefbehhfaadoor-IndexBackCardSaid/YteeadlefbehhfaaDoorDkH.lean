/-
  A disk in memory: what lies where; what a call leaves of all else.
-/
import Derived.Test.YteeadlefbehhfaaDoorDk
import Derived.Test.YteeadlefbehhfaaDoorOwnArg
import Derived.Maps.OwnSet
import Derived.Maps.RangeWalk
import Derived.Sort.KeysCollected
namespace Go.Proofs.YteeadlefbehhfaaDoor
open Go.RowKit Go.Maps

/-- Blocks of which S does not hold lie as they lay. -/
structure Chg (S : Nat → Prop) (w w' : World) : Prop where
  os : w'.os = w.os
  tape : w'.tape = w.tape
  output : w'.output = w.output
  size : w.heap.size ≤ w'.heap.size
  block : ∀ k, k < w.heap.size → ¬ S k → w'.heap[k]? = w.heap[k]?
/-- S, and what is new since. -/
def Up (S : Nat → Prop) (w w' : World) : Nat → Prop := fun k => S k ∨ (w.heap.size ≤ k ∧ k < w'.heap.size)
theorem Chg.refl (S : Nat → Prop) (w : World) : Chg S w w := ⟨rfl, rfl, rfl, Nat.le_refl _, fun _ _ _ => rfl⟩
theorem Chg.trans {S T : Nat → Prop} {a b c : World} (h : Chg S a b) (k : Chg T b c) (hT : ∀ i, i < a.heap.size → T i → S i) : Chg S a c :=
  ⟨k.os.trans h.os, k.tape.trans h.tape, k.output.trans h.output, Nat.le_trans h.size k.size, fun i hi hn => (k.block i (Nat.lt_of_lt_of_le hi h.size) (fun t => hn (hT i hi t))).trans (h.block i hi hn)⟩
theorem Chg.up {S : Nat → Prop} {a b c : World} (h : Chg S a b) (k : Chg (Up S a b) b c) : Chg S a c := h.trans k fun i hi t => by rcases t with t | t; exact t; omega
theorem Chg.then {S : Nat → Prop} {a b c : World} (h : Chg S a b) (k : Chg S b c) : Chg S a c := h.trans k fun _ _ t => t
theorem Chg.mono {S T : Nat → Prop} {a b : World} (h : Chg S a b) (hT : ∀ i, S i → T i) : Chg T a b := ⟨h.os, h.tape, h.output, h.size, fun k hk hn => h.block k hk fun s => hn (hT k s)⟩
theorem Chg.of_below {S : Nat → Prop} {w w' : World} (h : Below w.heap.size w w') : Chg S w w' := ⟨h.os, h.tape, h.output, h.size, fun k hk _ => h.block k hk⟩
theorem Chg.of_grown {S : Nat → Prop} {w w' : World} {row : Option Nat} (h : w.grownBy w' row) (hr : ∀ k, row = some k → S k) : Chg S w w' :=
  ⟨h.os, h.tape, h.output, h.size, fun k hk hn => h.block k hk fun e => hn (hr k e.symm)⟩
theorem Chg.setCell {S : Nat → Prop} (w : World) (g i : Nat) (v : Value) (hS : S g) : Chg S w (w.setCell ⟨g, i, none⟩ v) :=
  ⟨rfl, rfl, rfl, by simp, fun k _ hn => Below.heap_setCell _ _ _ _ (by intro e; subst e; exact hn hS)⟩
theorem Chg.below {S : Nat → Prop} {w w' : World} {C : Nat} (h : Chg S w w') (hC : C ≤ w.heap.size) (hS : ∀ k, S k → C ≤ k) : Below C w w' :=
  ⟨h.os, h.tape, h.output, h.size, fun k hk => h.block k (by omega) fun s => by have := hS k s; omega⟩
theorem Chg.cell {S : Nat → Prop} {w w' : World} (h : Chg S w w') {b o : Nat} {v : Value} (hc : w.cell? ⟨b, o, none⟩ = some v) (hn : ¬ S b) : w'.cell? ⟨b, o, none⟩ = some v := by
  have hb := h.block b (World.block_lt_of_cell? w _ hc) hn
  simpa [World.cell?, hb] using hc
theorem up_self {S : Nat → Prop} {a b : World} : ∀ k, S k → Up S a b k := fun _ h => .inl h
theorem up_up {S : Nat → Prop} {a b c : World} (h1 : a.heap.size ≤ b.heap.size) (h2 : b.heap.size ≤ c.heap.size) : ∀ k, Up (Up S a b) b c k → Up S a c k := by
  rintro k ((h | h) | h)
  · exact .inl h
  · exact .inr (by omega)
  · exact .inr (by omega)

/-- A pointer to a file, as a map's element. -/
def ptrE (v : Value) : Option (DataW Unit × List MemPlace) :=
  match v with
  | .pointer none => some (.lit (.int .i64 (-1)), [])
  | .pointer (some ⟨b, 0, none⟩) => some (.lit (.int .i64 b), [])
  | _ => none
def fileV : Option Nat → Value
  | none => .pointer none
  | some i => .pointer (some ⟨i, 0, none⟩)
def fileD : Option Nat → DataW Unit → DataW Unit
  | none, z => z
  | some i, _ => .lit (.int .i64 (i : Int))
theorem ptrE_file (i : Nat) : ptrE (fileV (some i)) = some (.lit (.int .i64 (i : Int)), []) := rfl
theorem ptrE_nil : ptrE (.pointer none) = some (.lit (.int .i64 (-1)), []) := rfl
/-- What reads so is that file's pointer. -/
theorem ptrE_inv {v : Value} {f : Option Nat} {ps : List MemPlace} (h : ptrE v = some (fileD f (.lit (.int .i64 (-1))), ps)) : v = fileV f := by
  unfold ptrE at h
  split at h
  · cases f with
    | none => rfl
    | some i => simp [fileD] at h <;> omega
  · rename_i b
    cases f with
    | none => simp [fileD] at h <;> omega
    | some i =>
      simp [fileD] at h
      obtain ⟨h, _⟩ := h
      have : b = i := by omega
      subst this
      rfl
  · cases h

/-- A map from names to files. -/
structure NamesAt (w : World) (b n : Nat) (f : Dk.Dir) : Prop where
  ex : ∃ D, w.ownsMap Tryd.prog 9 ptrE b n D ∧ ∀ k zd, D.atKey (.string k) zd = fileD (f k) zd
theorem str_law : Keyed Tryd.prog 9 := string_keyed Tryd.underlying9
theorem NamesAt.mono {w : World} {b n m : Nat} {f : Dk.Dir} (h : NamesAt w b n f) (hm : n ≤ m) : NamesAt w b m f := by
  obtain ⟨D, h1, h2⟩ := h.ex; exact ⟨D, h1.mono hm, h2⟩
theorem NamesAt.lt {w : World} {b n : Nat} {f : Dk.Dir} (h : NamesAt w b n f) : b < w.heap.size := by
  obtain ⟨D, h1, _⟩ := h.ex; exact h1.lt
theorem NamesAt.same {w w' : World} {b n : Nat} {f : Dk.Dir} (h : NamesAt w b n f) (hb : w'.heap[b]? = w.heap[b]?) : NamesAt w' b n f := by
  obtain ⟨D, ⟨es, clock, h1, h3⟩, h2⟩ := h.ex
  exact ⟨D, ⟨es, clock, hb.trans h1, h3⟩, h2⟩
theorem NamesAt.made (w : World) : NamesAt (w.alloc (.map #[] 0)) w.heap.size 0 (fun _ => none) :=
  ⟨.map [], World.ownsMap_made _ _ _ _, fun k zd => by simp [DataW.atKey, fileD]⟩
end Go.Proofs.YteeadlefbehhfaaDoor
namespace Go.Proofs.YteeadlefbehhfaaDoor
open Go.RowKit Go.Maps

def mvCells (m : Dk.Mv) : List Value := [encStr m.frm, encStr m.to, fileV m.file]
def diskCells (s : Dk.St) (nb db : Nat) (sv : Value) : Array Value :=
  #[.int .i64 s.room, .map (some nb), .map (some db), sv, .int .i64 s.used, .int .i64 s.calls, .int .i64 s.armed, .bool s.down]

theorem ownsRow_same {w w' : World} {base : Nat} {e : TypeId} {size : Nat} {v : Value} {n : Nat} {xs : List Value} (h : w.ownsRow base e size v n xs) (hb : ∀ g, v.ownBlock = some g → w'.heap[g]? = w.heap[g]?) : w'.ownsRow base e size v n xs := by
  refine ⟨h.1, ?_⟩
  rcases h.2 with h2 | ⟨g, cap, cur, rfl, hg, hh, r⟩
  · exact .inl h2
  · exact .inr ⟨g, cap, cur, rfl, hg, (hb g rfl).trans hh, r⟩
end Go.Proofs.YteeadlefbehhfaaDoor
