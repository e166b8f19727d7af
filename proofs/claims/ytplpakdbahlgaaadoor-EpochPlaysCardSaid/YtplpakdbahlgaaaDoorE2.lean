/-
  A disk as plain data: files, the names that lead to them, the names as they were synced, the moves since; what each call makes of it.
  A disk in memory: what lies where; what a call leaves of all else.
  What stands ahead of a disk's calls: the power, the file of a name, whether a name may be.
  A disk's maps of names: looked up, stored into, struck from, at the operation; and whether a name may be.
  The file of a name; what is ahead of a call that changes a file; the first bytes of a file kept.
  One file of a disk is turned; its first bytes kept.
  The calls of a disk that change a file: Sync, Cut, Append.
  An index, plainly: its marks, what was added, the greatest time; Add.
  An index in memory; what a call leaves of all else.
  Package index: New, isBehind, isDue.
  Package index: isDue, Add.
  Package index: Add.
  Package index: Add.
  Package index: Add, of what may be.
  Package index: Marks (a copy of the marks), When.
  Package index: When.
  A session with an index; Long.
  first() of the index's statements.
  sort.Search laid; Find.
  Package index: what Cut stands on.
-/
import Derived.Test.YtplpakdbahlgaaaDoorRows
import Derived.Test.YtplpakdbahlgaaaDoorE1
import Derived.Maps.OwnSet
import Derived.Maps.RangeWalk
import Derived.Sort.KeysCollected
import Derived.Maps.OwnIn
import Derived.Deep.QuietTactic
import Derived.BigQuiet
import Derived.Deep.Cut
import Derived.WalkKit
import Derived.ProofKit
import Derived.Outline
import Derived.LoopTactic
import Derived.Deep.RegionLaw
import Derived.Shelf.SlSorted.Search
import Derived.Deep.RegionWith
namespace Go.Proofs.YtplpakdbahlgaaaDoor.Dk

/-- A name, as its bytes. -/
abbrev Nm := List UInt8
/-- Which file a name leads to. -/
abbrev Dir := Nm → Option Nat
def upd (f : Dir) (k : Nm) (v : Option Nat) : Dir := fun x => if x = k then v else f x
theorem upd_same (f : Dir) (k : Nm) (v : Option Nat) : upd f k v k = v := by simp [upd]
theorem upd_other (f : Dir) (k x : Nm) (v : Option Nat) (h : x ≠ k) : upd f k v x = f x := by simp [upd, h]

structure File where
  born : Int
  bytes : List UInt8
  synced : Nat
deriving Inhabited

structure Mv where
  frm : Nm
  to : Nm
  file : Option Nat
deriving Inhabited

def Mv.on (m : Mv) (f : Dir) : Dir :=
  if m.to = [] then (if m.frm = [] then f else upd f m.frm none) else upd (if m.frm = [] then f else upd f m.frm none) m.to m.file
def ons (ms : List Mv) (f : Dir) : Dir := ms.foldl (fun g m => m.on g) f
theorem ons_snoc (ms : List Mv) (m : Mv) (f : Dir) : ons (ms ++ [m]) f = m.on (ons ms f) := by simp [ons]

structure St where
  room : Int
  names : Dir
  dur : Dir
  since : List Mv
  used : Int
  calls : Int
  armed : Int
  down : Bool
  files : Nat → File

def St.setFile (s : St) (i : Nat) (f : File) : St := { s with files := fun k => if k = i then f else s.files k }
theorem setFile_same (s : St) (i : Nat) (f : File) : (s.setFile i f).files i = f := by simp [St.setFile]
theorem setFile_other (s : St) (i k : Nat) (f : File) (h : k ≠ i) : (s.setFile i f).files k = s.files k := by simp [St.setFile, h]

/-- A disk as New makes it. -/
def St.new (room : Int) : St := { room := room, names := fun _ => none, dur := fun _ => none, since := [], used := 0, calls := 0, armed := 0, down := false, files := fun _ => default }

/-- What stands ahead of a call that changes. -/
def St.begin (s : St) : St := if 0 < s.armed then { s with armed := s.armed - 1, down := s.down || decide (s.armed - 1 = 0) } else s

def okByte (c : UInt8) : Bool := (97 ≤ c && c ≤ 122) || (48 ≤ c && c ≤ 57) || c == 46 || c == 45 || c == 95
def valid (n : Nm) : Bool := decide (1 ≤ n.length) && decide (n.length ≤ 64) && n.all okByte

/-- A move is done, and kept. -/
def St.doMove (s : St) (m : Mv) : St := { s with names := m.on s.names, since := s.since ++ [m], calls := s.calls + 1 }
/-- The first n moves are made durable. -/
def St.settle (s : St) (n : Nat) : St := { s with dur := ons (s.since.take n) s.dur, since := [] }
def File.keep (f : File) (n : Nat) : File := { f with bytes := f.bytes.take n, synced := n }

/-- How a call ends: which error (its number among the package's), and the disk. -/
abbrev End := Option Nat × St

def St.find (s : St) (name : Nm) : Option Nat × Option Nat :=
  if s.down then (some 9, none) else match s.names name with | none => (some 6, none) | some i => (none, some i)

def St.create (s : St) (name : Nm) (id : Nat) : End :=
  if s.begin.down then (some 9, s.begin)
  else if valid name = false then (some 5, s.begin)
  else if s.begin.names name ≠ none then (some 7, s.begin)
  else (none, (s.begin.setFile id ⟨s.begin.calls, [], 0⟩).doMove ⟨[], name, some id⟩)

def St.append (s : St) (name : Nm) (b : List UInt8) : End :=
  match s.begin.find name with
  | (some j, _) => (some j, s.begin)
  | (none, none) => (none, s.begin)
  | (none, some i) =>
    if s.begin.room - s.begin.used < b.length then (some 8, s.begin)
    else (none, { s.begin.setFile i { s.begin.files i with bytes := (s.begin.files i).bytes ++ b } with used := s.begin.used + b.length, calls := s.begin.calls + 1 })

def St.cut (s : St) (name : Nm) (n : Int) : End :=
  match s.begin.find name with
  | (some j, _) => (some j, s.begin)
  | (none, none) => (none, s.begin)
  | (none, some i) =>
    if n < 0 ∨ ((s.begin.files i).bytes.length : Int) < n then (some 4, s.begin)
    else (none, { s.begin.setFile i ((s.begin.files i).keep n.toNat) with used := s.begin.used - (((s.begin.files i).bytes.length : Int) - n), calls := s.begin.calls + 1 })

def St.sync (s : St) (name : Nm) : End :=
  match s.begin.find name with
  | (some j, _) => (some j, s.begin)
  | (none, none) => (none, s.begin)
  | (none, some i) => (none, { s.begin.setFile i ((s.begin.files i).keep (s.begin.files i).bytes.length) with calls := s.begin.calls + 1 })

def St.rename (s : St) (frm to : Nm) : End :=
  match s.begin.find frm with
  | (some j, _) => (some j, s.begin)
  | (none, none) => (none, s.begin)
  | (none, some i) =>
    if valid to = false then (some 5, s.begin)
    else
      let u := match s.begin.names to with
        | none => s.begin.used
        | some o => if o = i then s.begin.used else s.begin.used - (s.begin.files o).bytes.length
      (none, { s.begin with used := u }.doMove ⟨frm, to, some i⟩)

def St.remove (s : St) (name : Nm) : End :=
  match s.begin.find name with
  | (some j, _) => (some j, s.begin)
  | (none, none) => (none, s.begin)
  | (none, some i) => (none, { s.begin with used := s.begin.used - (s.begin.files i).bytes.length }.doMove ⟨name, [], none⟩)

def St.syncDir (s : St) : End :=
  if s.begin.down then (some 9, s.begin) else (none, { s.begin.settle s.begin.since.length with calls := s.begin.calls + 1 })

/-- The i-th pick, taken round as 0 to most. -/
def pick (picks : List Int) (i : Nat) (most : Nat) : Nat := if i < picks.length then ((picks.getD i 0) % ((most : Int) + 1)).toNat else 0
theorem pick_le (picks : List Int) (i most : Nat) : pick picks i most ≤ most := by
  unfold pick
  split
  · have h1 := Int.emod_nonneg (picks.getD i 0) (show ((most : Int) + 1) ≠ 0 by omega)
    have h2 := Int.emod_lt_of_pos (picks.getD i 0) (show (0 : Int) < (most : Int) + 1 by omega)
    omega
  · omega

/-- The files of a list are kept so far, from the i-th pick on; how many bytes that is. -/
def St.keepAll (picks : List Int) : Nat → List Nat → St → St
  | _, [], s => s
  | i, f :: fs, s =>
    let k := (s.files f).synced + pick picks i ((s.files f).bytes.length - (s.files f).synced)
    St.keepAll picks (i + 1) fs { s.setFile f ((s.files f).keep k) with used := s.used + k }
def St.crash (s : St) (picks : List Int) (order : List Nat) : St :=
  let t := s.settle (pick picks 0 s.since.length)
  let u := St.keepAll picks 1 order { t with names := t.dur, used := 0 }
  { u with armed := 0, down := false }

/-- All files that have a name, each once for each of its names. -/
def Vals (f : Dir) (l : List Nat) : Prop := ∃ ks : List Nm, ks.Nodup ∧ (∀ k, k ∈ ks ↔ f k ≠ none) ∧ l.map some = ks.map f
/-- The elder first. -/
def Order (s : St) (f : Dir) (l : List Nat) : Prop := ∃ l', Vals f l' ∧ l.Perm l' ∧ l.Pairwise fun a b => (s.files a).born ≤ (s.files b).born
end Go.Proofs.YtplpakdbahlgaaaDoor.Dk

namespace Go.Proofs.YtplpakdbahlgaaaDoor
open Go.RowKit Go.Maps

/-- Blocks of which S does not hold lie as they lay. -/
structure Chg (S : Nat → Prop) (w w' : World) : Prop where
  os : w'.os = w.os
  tape : w'.tape = w.tape
  output : w'.output = w.output
  size : w.heap.size ≤ w'.heap.size
  block : ∀ k, k < w.heap.size → ¬ S k → w'.heap[k]? = w.heap[k]?
/-- S, and what is new since. -/
def Up (S : Nat → Prop) (w w' : World) : Nat → Prop := fun k => S k ∨ (w.heap.size ≤ k ∧ k < w'.heap.size)
theorem Chg.refl (S : Nat → Prop) (w : World) : Chg S w w := ⟨rfl, rfl, rfl, Nat.le_refl _, fun _ _ _ => rfl⟩
theorem Chg.trans {S T : Nat → Prop} {a b c : World} (h : Chg S a b) (k : Chg T b c) (hT : ∀ i, i < a.heap.size → T i → S i) : Chg S a c :=
  ⟨k.os.trans h.os, k.tape.trans h.tape, k.output.trans h.output, Nat.le_trans h.size k.size, fun i hi hn => (k.block i (Nat.lt_of_lt_of_le hi h.size) (fun t => hn (hT i hi t))).trans (h.block i hi hn)⟩
theorem Chg.up {S : Nat → Prop} {a b c : World} (h : Chg S a b) (k : Chg (Up S a b) b c) : Chg S a c := h.trans k fun i hi t => by rcases t with t | t; exact t; omega
theorem Chg.then {S : Nat → Prop} {a b c : World} (h : Chg S a b) (k : Chg S b c) : Chg S a c := h.trans k fun _ _ t => t
theorem Chg.mono {S T : Nat → Prop} {a b : World} (h : Chg S a b) (hT : ∀ i, S i → T i) : Chg T a b := ⟨h.os, h.tape, h.output, h.size, fun k hk hn => h.block k hk fun s => hn (hT k s)⟩
theorem Chg.of_below {S : Nat → Prop} {w w' : World} (h : Below w.heap.size w w') : Chg S w w' := ⟨h.os, h.tape, h.output, h.size, fun k hk _ => h.block k hk⟩
theorem Chg.of_grown {S : Nat → Prop} {w w' : World} {row : Option Nat} (h : w.grownBy w' row) (hr : ∀ k, row = some k → S k) : Chg S w w' :=
  ⟨h.os, h.tape, h.output, h.size, fun k hk hn => h.block k hk fun e => hn (hr k e.symm)⟩
theorem Chg.setCell {S : Nat → Prop} (w : World) (g i : Nat) (v : Value) (hS : S g) : Chg S w (w.setCell ⟨g, i, none⟩ v) :=
  ⟨rfl, rfl, rfl, by simp, fun k _ hn => Below.heap_setCell _ _ _ _ (by intro e; subst e; exact hn hS)⟩
theorem Chg.below {S : Nat → Prop} {w w' : World} {C : Nat} (h : Chg S w w') (hC : C ≤ w.heap.size) (hS : ∀ k, S k → C ≤ k) : Below C w w' :=
  ⟨h.os, h.tape, h.output, h.size, fun k hk => h.block k (by omega) fun s => by have := hS k s; omega⟩
theorem Chg.cell {S : Nat → Prop} {w w' : World} (h : Chg S w w') {b o : Nat} {v : Value} (hc : w.cell? ⟨b, o, none⟩ = some v) (hn : ¬ S b) : w'.cell? ⟨b, o, none⟩ = some v := by
  have hb := h.block b (World.block_lt_of_cell? w _ hc) hn
  simpa [World.cell?, hb] using hc
theorem up_self {S : Nat → Prop} {a b : World} : ∀ k, S k → Up S a b k := fun _ h => .inl h
theorem up_up {S : Nat → Prop} {a b c : World} (h1 : a.heap.size ≤ b.heap.size) (h2 : b.heap.size ≤ c.heap.size) : ∀ k, Up (Up S a b) b c k → Up S a c k := by
  rintro k ((h | h) | h)
  · exact .inl h
  · exact .inr (by omega)
  · exact .inr (by omega)

/-- A pointer to a file, as a map's element. -/
def ptrE (v : Value) : Option (DataW Unit × List MemPlace) :=
  match v with
  | .pointer none => some (.lit (.int .i64 (-1)), [])
  | .pointer (some ⟨b, 0, none⟩) => some (.lit (.int .i64 b), [])
  | _ => none
def fileV : Option Nat → Value
  | none => .pointer none
  | some i => .pointer (some ⟨i, 0, none⟩)
def fileD : Option Nat → DataW Unit → DataW Unit
  | none, z => z
  | some i, _ => .lit (.int .i64 (i : Int))
theorem ptrE_file (i : Nat) : ptrE (fileV (some i)) = some (.lit (.int .i64 (i : Int)), []) := rfl
theorem ptrE_nil : ptrE (.pointer none) = some (.lit (.int .i64 (-1)), []) := rfl
/-- What reads so is that file's pointer. -/
theorem ptrE_inv {v : Value} {f : Option Nat} {ps : List MemPlace} (h : ptrE v = some (fileD f (.lit (.int .i64 (-1))), ps)) : v = fileV f := by
  unfold ptrE at h
  split at h
  · cases f with
    | none => rfl
    | some i => simp [fileD] at h <;> omega
  · rename_i b
    cases f with
    | none => simp [fileD] at h <;> omega
    | some i =>
      simp [fileD] at h
      obtain ⟨h, _⟩ := h
      have : b = i := by omega
      subst this
      rfl
  · cases h

/-- A map from names to files. -/
structure NamesAt (w : World) (b n : Nat) (f : Dk.Dir) : Prop where
  ex : ∃ D, w.ownsMap Tryd.prog 9 ptrE b n D ∧ ∀ k zd, D.atKey (.string k) zd = fileD (f k) zd
theorem str_law : Keyed Tryd.prog 9 := string_keyed Tryd.underlying9
theorem NamesAt.mono {w : World} {b n m : Nat} {f : Dk.Dir} (h : NamesAt w b n f) (hm : n ≤ m) : NamesAt w b m f := by
  obtain ⟨D, h1, h2⟩ := h.ex; exact ⟨D, h1.mono hm, h2⟩
theorem NamesAt.lt {w : World} {b n : Nat} {f : Dk.Dir} (h : NamesAt w b n f) : b < w.heap.size := by
  obtain ⟨D, h1, _⟩ := h.ex; exact h1.lt
theorem NamesAt.same {w w' : World} {b n : Nat} {f : Dk.Dir} (h : NamesAt w b n f) (hb : w'.heap[b]? = w.heap[b]?) : NamesAt w' b n f := by
  obtain ⟨D, ⟨es, clock, h1, h3⟩, h2⟩ := h.ex
  exact ⟨D, ⟨es, clock, hb.trans h1, h3⟩, h2⟩
theorem NamesAt.made (w : World) : NamesAt (w.alloc (.map #[] 0)) w.heap.size 0 (fun _ => none) :=
  ⟨.map [], World.ownsMap_made _ _ _ _, fun k zd => by simp [DataW.atKey, fileD]⟩
end Go.Proofs.YtplpakdbahlgaaaDoor
namespace Go.Proofs.YtplpakdbahlgaaaDoor
open Go.RowKit Go.Maps

def mvCells (m : Dk.Mv) : List Value := [encStr m.frm, encStr m.to, fileV m.file]
def diskCells (s : Dk.St) (nb db : Nat) (sv : Value) : Array Value :=
  #[.int .i64 s.room, .map (some nb), .map (some db), sv, .int .i64 s.used, .int .i64 s.calls, .int .i64 s.armed, .bool s.down]

theorem ownsRow_same {w w' : World} {base : Nat} {e : TypeId} {size : Nat} {v : Value} {n : Nat} {xs : List Value} (h : w.ownsRow base e size v n xs) (hb : ∀ g, v.ownBlock = some g → w'.heap[g]? = w.heap[g]?) : w'.ownsRow base e size v n xs := by
  refine ⟨h.1, ?_⟩
  rcases h.2 with h2 | ⟨g, cap, cur, rfl, hg, hh, r⟩
  · exact .inl h2
  · exact .inr ⟨g, cap, cur, rfl, hg, (hb g rfl).trans hh, r⟩
end Go.Proofs.YtplpakdbahlgaaaDoor

namespace Go.Proofs.YtplpakdbahlgaaaDoor
open Go.RowKit Go.Maps

/-- An error that is nil, or one of the package's. -/
def errR (p : Nat → Addr) : Option Nat → Value
  | none => .nilIface
  | some j => errV (p j)
/-- The errors that a disk tells. -/
abbrev SentsD (w : World) (p : Nat → Addr) : Prop := SentsOn (fun j => 4 ≤ j ∧ j ≤ 9) w p
theorem SentsD.c9 {w : World} {p : Nat → Addr} (h : SentsD w p) : w.cell? ⟨10, 0, none⟩ = some (errV (p 9)) := h.cell 9 (by omega)
theorem SentsD.c8 {w : World} {p : Nat → Addr} (h : SentsD w p) : w.cell? ⟨9, 0, none⟩ = some (errV (p 8)) := h.cell 8 (by omega)
theorem SentsD.c7 {w : World} {p : Nat → Addr} (h : SentsD w p) : w.cell? ⟨8, 0, none⟩ = some (errV (p 7)) := h.cell 7 (by omega)
theorem SentsD.c6 {w : World} {p : Nat → Addr} (h : SentsD w p) : w.cell? ⟨7, 0, none⟩ = some (errV (p 6)) := h.cell 6 (by omega)
theorem SentsD.c5 {w : World} {p : Nat → Addr} (h : SentsD w p) : w.cell? ⟨6, 0, none⟩ = some (errV (p 5)) := h.cell 5 (by omega)
theorem SentsD.c4 {w : World} {p : Nat → Addr} (h : SentsD w p) : w.cell? ⟨0, 0, none⟩ = some (errV (p 4)) := h.cell 4 (by omega)

theorem box_cell {w : World} {b : Nat} {c : Array Value} {t : TypeId} {fz : Nat × Nat} (h : w.heap[b]? = some (.cells c t fz)) (k : Nat) : w.cell? ⟨b, k, none⟩ = c[k]? := by simp [World.cell?, h]
theorem box_free {w : World} {b : Nat} {c : Array Value} {t : TypeId} (h : w.heap[b]? = some (.cells c t (0, 0))) (k : Nat) : w.frozen? ⟨b, k, none⟩ = false := by simp [World.frozen?, h]

end Go.Proofs.YtplpakdbahlgaaaDoor

namespace Go.Proofs.YtplpakdbahlgaaaDoor
open Go.RowKit Go.Maps Go.ChangeMaps Go.MapKept

theorem str_key {k : Dk.Nm} (hk : k.length ≤ 9223372036854775807) : keyOf Tryd.prog 9 (encStr k) = some (.string k) := by
  have := Go.WideMaps.keyOf_string_mk (P := Tryd.prog) Tryd.underlying9 (s := ⟨k.toArray⟩) (by simpa [maxLen, ByteArray.size] using hk)
  simpa using this
end Go.Proofs.YtplpakdbahlgaaaDoor
namespace Go.Proofs.YtplpakdbahlgaaaDoor
open Go.RowKit

theorem str_at (k : Dk.Nm) (i : Nat) (h : i < k.length) (W : World) : (Instr.index 9 (encStr k) (.int .i64 (i : Int))).run Tryd.prog W = .ok (.int .u8 (B (k.getD i 0))) W := by
  have hg : (⟨k.toArray⟩ : ByteArray)[i]? = some k[i] := by
    rw [getElem?_pos (⟨k.toArray⟩ : ByteArray) i (by simpa [ByteArray.size] using h)]
    rfl
  simp [Instr.index, run_underlying Tryd.underlying9, asIntOf, hg, B, List.getD, h]

theorem okByte_iff (c : UInt8) : Dk.okByte c = true ↔ (97 ≤ B c ∧ B c ≤ 122) ∨ (48 ≤ B c ∧ B c ≤ 57) ∨ B c = 46 ∨ B c = 45 ∨ B c = 95 := by
  unfold Dk.okByte B
  simp [UInt8.le_iff_toNat_le, ← UInt8.toNat_inj]
  omega
theorem all_take (k : Dk.Nm) (j : Nat) (hj : j < k.length) (h : (k.take j).all Dk.okByte = true) (hb : Dk.okByte (k.getD j 0) = true) : (k.take (j + 1)).all Dk.okByte = true := by
  rw [List.take_succ_eq_append_getElem hj, List.all_append, h]
  simpa [List.getD, hj] using hb
theorem not_all (k : Dk.Nm) (j : Nat) (hj : j < k.length) (hb : Dk.okByte (k.getD j 0) ≠ true) : Dk.valid k = false := by
  have : k.all Dk.okByte = false := by
    rw [List.all_eq_false]
    exact ⟨k[j], List.getElem_mem _, by simpa [List.getD, hj] using hb⟩
  simp [Dk.valid, this]

end Go.Proofs.YtplpakdbahlgaaaDoor

namespace Go.Proofs.YtplpakdbahlgaaaDoor
open Go.RowKit Go.Maps

theorem neq_nilD (a : Addr) (w : World) : (binOp .neq 27 (errV a) .nilIface).run Tryd.prog w = .ok (.bool true) w := by
  obtain ⟨ms, i, j, h1, h2, h3, h4, h5⟩ := es_facts
  have h : ∀ d : Nat, (Op.equalIn (d + 1) 27 (errV a) .nilIface).run Tryd.prog w = .ok false w := fun d => by simp [Op.equalIn, run_underlying h1, errV]
  simp only [binOp]
  simp [Op.equal, Op.maxDepth, h 9999]

end Go.Proofs.YtplpakdbahlgaaaDoor

namespace Go.Proofs.YtplpakdbahlgaaaDoor
open Go.RowKit Go.Maps

theorem Own.take {w : World} {base n len cap : Nat} {A : Option Addr} {l : List UInt8} (h : Own w base (.slice A len cap) l) (hn : n ≤ l.length) : Own w base (.slice A n cap) (l.take n) := by
  obtain ⟨_, h2⟩ := h
  have hlen : (l.take n).length = n := by simp; omega
  refine ⟨by simp [cells_len], ?_⟩
  rcases h2 with ⟨e, h0⟩ | ⟨g, cp, cur, e, hb, hh, hc, hm, hs, ht⟩
  · injection e with e1 e2 e3
    subst e1 e2 e3
    obtain rfl : n = 0 := by omega
    exact .inl ⟨rfl, by simp⟩
  · injection e with e1 e2 e3
    subst e1 e3
    refine .inr ⟨g, cap, cur, by rw [hlen], hb, hh, by omega, hm, hs, ?_⟩
    have h3 : cells (l.take n) = (cells l).take n := by simp [cells, List.map_take]
    rw [h3, ← ht, hlen, List.take_take]
    congr 1
    omega
theorem ownBlock_lt {w : World} {v : Value} {l : List UInt8} (h : Own w 0 v l) {g : Nat} (hg : v.ownBlock = some g) : ∃ cur, w.heap[g]? = some (.cells cur 5 (0, 0)) := by
  rcases h.2 with ⟨e, _⟩ | ⟨g', cap, cur, e, _, hh, _⟩
  · rw [e] at hg; cases hg
  · rw [e] at hg; injection hg with hg; subst hg; exact ⟨cur, hh⟩
theorem rowBlock_at {w : World} {e : TypeId} {n sz : Nat} {v : Value} {xs : List Value} (h : w.ownsRow 0 e sz v n xs) {g : Nat} (hg : v.ownBlock = some g) : ∃ cur, w.heap[g]? = some (.cells cur e (0, 0)) := by
  rcases h.2 with ⟨e, _⟩ | ⟨g', cap, cur, e, _, hh, _⟩
  · rw [e] at hg; cases hg
  · rw [e] at hg; injection hg with hg; subst hg; exact ⟨cur, hh⟩
theorem types_ne {w : World} {i j : Nat} {c c' : Array Value} {t t' : TypeId} (h : w.heap[i]? = some (.cells c t (0, 0))) (h' : w.heap[j]? = some (.cells c' t' (0, 0))) (ht : t ≠ t') : i ≠ j := by
  intro e
  subst e
  rw [h] at h'
  injection h' with h'
  injection h' with _ h' _
  exact ht h'
theorem map_ne {w : World} {i b n : Nat} {c : Array Value} {t : TypeId} {f : Dk.Dir} (h : NamesAt w b n f) (h' : w.heap[i]? = some (.cells c t (0, 0))) : b ≠ i := by
  obtain ⟨D, ⟨es, clock, h1, _⟩, _⟩ := h.ex
  intro e
  subst e
  rw [h1] at h'
  cases h'

theorem up_same {S : Nat → Prop} {w w' : World} (h : w'.heap.size = w.heap.size) : ∀ k, Up S w w' k → S k := fun k hk => by
  rcases hk with hk | hk
  · exact hk
  · omega

end Go.Proofs.YtplpakdbahlgaaaDoor

namespace Go.Proofs.YtplpakdbahlgaaaDoor
open Go.RowKit Go.Maps

/-- None of S's blocks is an error's. -/
structure Safe (S : Nat → Prop) (p : Nat → Addr) : Prop where
  g : ∀ j, 4 ≤ j → j ≤ 9 → ¬ S (gs.getD j 0)
  b : ∀ j, 4 ≤ j → j ≤ 9 → ¬ S (p j).block
theorem SentsOn.chg {S : Nat → Prop} {w w' : World} {p : Nat → Addr} (h : SentsD w p) (hS : Safe S p) (hc : Chg S w w') : SentsD w' p :=
  ⟨fun j hj => hc.cell (h.cell j hj) (hS.g j hj.1 hj.2), fun j hj => by
    obtain ⟨h1, c, t, h2⟩ := h.blk j hj
    exact ⟨Nat.lt_of_lt_of_le h1 hc.size, c, t, (hc.block _ h1 (hS.b j hj.1 hj.2)).trans h2⟩, h.ne⟩
/-- Numbers that stay within 64 bits. -/
structure Dk.Fit (s : Dk.St) : Prop where
  armed : -9223372036854775808 ≤ s.armed ∧ s.armed ≤ 9223372036854775807
  calls : 0 ≤ s.calls ∧ s.calls ≤ 1099511627776
  used : -1125899906842624 ≤ s.used ∧ s.used ≤ 1125899906842624
  room : 0 ≤ s.room ∧ s.room ≤ 1125899906842624
  file : ∀ i, (s.files i).bytes.length ≤ 1000000000
theorem Dk.Fit.begin {s : Dk.St} (h : Dk.Fit s) : Dk.Fit s.begin := by
  unfold Dk.St.begin
  split
  · exact ⟨by have := h.armed; show _ ≤ s.armed - 1 ∧ s.armed - 1 ≤ _; omega, h.calls, h.used, h.room, h.file⟩
  · exact h
theorem find_cases (t : Dk.St) (k : Dk.Nm) : (∃ j, t.find k = (some j, none)) ∨ ∃ i, t.find k = (none, some i) ∧ t.names k = some i := by
  unfold Dk.St.find
  split
  · exact .inl ⟨9, rfl⟩
  · cases h : t.names k with
    | none => exact .inl ⟨6, rfl⟩
    | some i => exact .inr ⟨i, rfl, rfl⟩

def LenIs (b : List UInt8) (n : Nat) : Prop := b.length = n
theorem LenIs.out {b : List UInt8} {n : Nat} (h : LenIs b n) : b.length = n := h
theorem Arg.chg {S : Nat → Prop} {w w' : World} {A : Option Addr} {c : Nat} {l : List UInt8} (h : Arg w A c l) (hc : Chg S w w') (hA : ∀ b o, A = some ⟨b, o, none⟩ → l ≠ [] → ¬ S b) : Arg w' A c l := by
  refine ⟨h.le, h.max, h.nil, ?_⟩
  rcases h.reads with e | ⟨b, off, e, hb, hr⟩
  · exact .inl e
  · by_cases hl : l = []
    · exact .inl hl
    · exact .inr ⟨b, off, e, Nat.lt_of_lt_of_le hb hc.size, fun k hk => hc.cell (hr k hk) (hA b off e hl)⟩

end Go.Proofs.YtplpakdbahlgaaaDoor

namespace Go.Proofs.YtplpakdbahlgaaaDoor.Ix

structure Mark where
  off : Int
  time : Int
  pos : Int
structure Ad where
  off : Int
  pos : Int
structure St where
  every : Int
  marks : List Mark
  adds : List Ad
  time : Int
def new (every : Int) : St := ⟨every, [], [], -1099511627776⟩
def okO (o : Int) : Prop := 0 ≤ o ∧ o ≤ 1099511627776
def okT (t : Int) : Prop := -1099511627776 ≤ t ∧ t ≤ 1099511627776
def okP (p : Int) : Prop := 0 ≤ p ∧ p ≤ 1073741824
/-- Behind the last one that was added. -/
def behind (l : List Ad) (o p : Int) : Prop := ∀ a, l.getLast? = some a → a.off < o ∧ a.pos < p
/-- It lies every bytes or more behind the last mark. -/
def due (s : St) (p : Int) : Prop := ∀ m, s.marks.getLast? = some m → s.every ≤ p - m.pos
instance (o : Int) : Decidable (okO o) := inferInstanceAs (Decidable (_ ∧ _))
instance (o : Int) : Decidable (okT o) := inferInstanceAs (Decidable (_ ∧ _))
instance (o : Int) : Decidable (okP o) := inferInstanceAs (Decidable (_ ∧ _))
instance (l : List Ad) (o p : Int) : Decidable (behind l o p) := by
  unfold behind
  cases l.getLast? with
  | none => exact isTrue fun a h => by cases h
  | some b => exact decidable_of_iff (b.off < o ∧ b.pos < p) ⟨fun h a e => by cases e; exact h, fun h => h b rfl⟩
instance (s : St) (p : Int) : Decidable (due s p) := by
  unfold due
  cases s.marks.getLast? with
  | none => exact isTrue fun a h => by cases h
  | some b => exact decidable_of_iff (s.every ≤ p - b.pos) ⟨fun h a e => by cases e; exact h, fun h => h b rfl⟩
def good (s : St) (o t p z : Int) : Prop := okO o ∧ okT t ∧ 1 ≤ z ∧ okP p ∧ behind s.adds o p
instance (s : St) (o t p z : Int) : Decidable (good s o t p z) := inferInstanceAs (Decidable (_ ∧ _))
/-- What is taken in. -/
def put (s : St) (o t p : Int) : St :=
  ⟨s.every, if due s p then s.marks ++ [⟨o, max s.time t, p⟩] else s.marks, s.adds ++ [⟨o, p⟩], max s.time t⟩
def add (s : St) (o t p z : Int) : Option Nat × St := if good s o t p z then (none, put s o t p) else (some 4, s)

/-- Its numbers are such as may be. -/
structure Ok (s : St) : Prop where
  every : 1 ≤ s.every ∧ s.every ≤ 1048576
  time : okT s.time
  marks : ∀ m ∈ s.marks, okO m.off ∧ okT m.time ∧ okP m.pos
  adds : ∀ a ∈ s.adds, okO a.off ∧ okP a.pos
theorem Ok.new (e : Int) (h : 1 ≤ e ∧ e ≤ 1048576) : Ok (new e) :=
  ⟨h, (show okT (-1099511627776) from ⟨by omega, by omega⟩), fun m (hm : m ∈ []) => (by cases hm), fun a (ha : a ∈ []) => (by cases ha)⟩
theorem okT_max {a b : Int} (ha : okT a) (hb : okT b) : okT (max a b) := by unfold okT at *; omega
theorem Ok.put {s : St} (h : Ok s) (o t p : Int) (ho : okO o) (ht : okT t) (hp : okP p) : Ok (put s o t p) := by
  refine ⟨h.every, okT_max h.time ht, fun m hm => ?_, fun a ha => ?_⟩
  · unfold Ix.put at hm
    simp only at hm
    split at hm
    · rcases List.mem_append.1 hm with hm | hm
      · exact h.marks m hm
      · rw [List.mem_singleton] at hm; subst hm; exact ⟨ho, okT_max h.time ht, hp⟩
    · exact h.marks m hm
  · rcases List.mem_append.1 ha with ha | ha
    · exact h.adds a ha
    · rw [List.mem_singleton] at ha; subst ha; exact ⟨ho, hp⟩
end Go.Proofs.YtplpakdbahlgaaaDoor.Ix

namespace Go.Proofs.YtplpakdbahlgaaaDoor
open Go.RowKit

def mkCells (m : Ix.Mark) : List Value := [.int .i64 m.off, .int .i64 m.time, .int .i64 m.pos]
def adCells (a : Ix.Ad) : List Value := [.int .i64 a.off, .int .i64 a.pos]
theorem mk_len (l : List Ix.Mark) : (l.flatMap mkCells).length = l.length * 3 := by
  induction l with
  | nil => rfl
  | cons m l ih => simp only [List.flatMap_cons, List.length_append, ih, mkCells, List.length_cons, List.length_nil]; omega
theorem ad_len (l : List Ix.Ad) : (l.flatMap adCells).length = l.length * 2 := by
  induction l with
  | nil => rfl
  | cons m l ih => simp only [List.flatMap_cons, List.length_append, ih, adCells, List.length_cons, List.length_nil]; omega
theorem mk_at : ∀ (l : List Ix.Mark) (k : Nat) (hk : k < l.length), (l.flatMap mkCells)[k * 3]? = some (.int .i64 l[k].off) ∧ (l.flatMap mkCells)[k * 3 + 1]? = some (.int .i64 l[k].time) ∧ (l.flatMap mkCells)[k * 3 + 2]? = some (.int .i64 l[k].pos)
  | m :: l, 0, _ => ⟨rfl, rfl, rfl⟩
  | m :: l, k + 1, hk => by
    obtain ⟨h1, h2, h3⟩ := mk_at l k (by simpa using hk)
    simp only [List.flatMap_cons, List.getElem_cons_succ]
    rw [List.getElem?_append_right (by simp [mkCells]; omega), List.getElem?_append_right (by simp [mkCells]; omega), List.getElem?_append_right (by simp [mkCells]; omega)]
    simp only [mkCells, List.length_cons, List.length_nil]
    rw [show (k + 1) * 3 - (0 + 1 + 1 + 1) = k * 3 by omega, show (k + 1) * 3 + 1 - (0 + 1 + 1 + 1) = k * 3 + 1 by omega, show (k + 1) * 3 + 2 - (0 + 1 + 1 + 1) = k * 3 + 2 by omega]
    exact ⟨h1, h2, h3⟩
theorem ad_at : ∀ (l : List Ix.Ad) (k : Nat) (hk : k < l.length), (l.flatMap adCells)[k * 2]? = some (.int .i64 l[k].off) ∧ (l.flatMap adCells)[k * 2 + 1]? = some (.int .i64 l[k].pos)
  | m :: l, 0, _ => ⟨rfl, rfl⟩
  | m :: l, k + 1, hk => by
    obtain ⟨h1, h2⟩ := ad_at l k (by simpa using hk)
    simp only [List.flatMap_cons, List.getElem_cons_succ]
    rw [List.getElem?_append_right (by simp [adCells]; omega), List.getElem?_append_right (by simp [adCells]; omega)]
    simp only [adCells, List.length_cons, List.length_nil]
    rw [show (k + 1) * 2 - (0 + 1 + 1) = k * 2 by omega, show (k + 1) * 2 + 1 - (0 + 1 + 1) = k * 2 + 1 by omega]
    exact ⟨h1, h2⟩

def ixCells (s : Ix.St) (mv av : Value) : Array Value := #[.int .i64 s.every, mv, av, .int .i64 s.time]
section
variable {P : Program} {w : World} {o : Oper} {a : Act} {Q : Exit → Act → World → Prop}
/-- append(s, x...), s the call's own row, whatever its elements. -/
theorem step_appG {K : Act → World → Prop} (t e : TypeId) (size bytes : Nat) (z : Value) (hu : P.underlying t = some (.slice e)) (hin : (P.info? e).map (fun i => (i.zero, i.size, i.bytes)) = some (some z, size, bytes)) (hzs : z.cells.size = size) (hsz : 0 < size)
    (s x : Operand) (ho : o.op = .call { callee := .builtin .append, args := #[s, x], argTypes := #[t, t] })
    (base : Nat) (v : Value) (n : Nat) (xs : List Value) (hs : a.eval s = v) (hown : w.ownsRow base e size v n xs) (A : Addr) (m c : Nat) (news : List Value) (hx : a.eval x = .slice (some A) m c) (hl : news.length = m * size)
    (hnews : ∀ j u, news[j]? = some u → w.cell? (A.add j) = some u) (h1 : ∀ u ∈ news, u.oneCell' = true) (h63 : n + m ≤ maxLen) (hby : (n + m) * bytes ≤ 140737488355328) (hbase : base ≤ w.heap.size)
    (h : ∀ v' w', w'.ownsRow base e size v' (n + m) (xs ++ news) → w.grownBy w' v.ownBlock → (v'.ownBlock = v.ownBlock ∨ v'.ownBlock = some w.heap.size) → K (a.put o.dst v') w') : o.wp P a w K Q := by
  obtain ⟨i, hi, hz, hs1, hb⟩ := info_parts hin
  obtain ⟨v', w', hrun, r2, r3, _, r5⟩ := run_append_own_at (P := P) w base t o.type e i _ size bytes hu hi hz hs1 hb hzs hsz v n xs hown A m c news hl hnews h1 h63 hby hbase
  unfold Oper.wp execOp
  simp only [ho, resolve, invoke, builtin, Sem.run_bind, Sem.run_pure, Result.andThen_ok, List.map_toArray, List.map_cons, List.map_nil, hs, hx, hrun]
  exact h v' w' r2 r3 r5
end
end Go.Proofs.YtplpakdbahlgaaaDoor

namespace Go.Proofs.YtplpakdbahlgaaaDoor
open Go.RowKit

theorem last_split {α : Type} {l : List α} (h : l ≠ []) : ∃ a, l = l.dropLast ++ [a] ∧ l.getLast? = some a ∧ l.length = l.dropLast.length + 1 :=
  ⟨l.getLast h, (List.dropLast_concat_getLast h).symm, (by match l, h with | _ :: _, _ => rfl), by rw [List.length_dropLast]; have := List.length_pos_iff.2 h; omega⟩

end Go.Proofs.YtplpakdbahlgaaaDoor

namespace Go.Proofs.YtplpakdbahlgaaaDoor
open Go.RowKit

end Go.Proofs.YtplpakdbahlgaaaDoor

namespace Go.Proofs.YtplpakdbahlgaaaDoor
open Go.RowKit

end Go.Proofs.YtplpakdbahlgaaaDoor

namespace Go.Proofs.YtplpakdbahlgaaaDoor
open Go.RowKit

theorem add_good {s : Ix.St} {o t p z : Int} (h : Ix.good s o t p z) : Ix.add s o t p z = (none, Ix.put s o t p) := if_pos h
theorem add_bad {s : Ix.St} {o t p z : Int} (h : ¬ Ix.good s o t p z) : Ix.add s o t p z = (some 4, s) := if_neg h

end Go.Proofs.YtplpakdbahlgaaaDoor

namespace Go.Proofs.YtplpakdbahlgaaaDoor
open Go.RowKit

section
variable {P : Program} {w : World} {o : Oper} {a : Act} {Q : Exit → Act → World → Prop}
/-- The same, as one step of a region that draws. -/
theorem step_appR {K : Act → World → Prop} {ops : Array Oper} {E : Prop} (hgu : o.guard = none) (t e : TypeId) (size bytes : Nat) (z : Value) (hu : P.underlying t = some (.slice e)) (hin : (P.info? e).map (fun i => (i.zero, i.size, i.bytes)) = some (some z, size, bytes)) (hzs : z.cells.size = size) (hsz : 0 < size)
    (s x : Operand) (ho : o.op = .call { callee := .builtin .append, args := #[s, x], argTypes := #[t, t] })
    (base : Nat) (v : Value) (n : Nat) (xs : List Value) (hs : a.eval s = v) (hown : w.ownsRow base e size v n xs) (A : Addr) (m c : Nat) (news : List Value) (hx : a.eval x = .slice (some A) m c) (hl : news.length = m * size)
    (hnews : ∀ j u, news[j]? = some u → w.cell? (A.add j) = some u) (h1 : ∀ u ∈ news, u.oneCell' = true) (h63 : n + m ≤ maxLen) (hby : (n + m) * bytes ≤ 140737488355328) (hbase : base ≤ w.heap.size)
    (h : ∀ v' w', w'.ownsRow base e size v' (n + m) (xs ++ news) → w.grownBy w' v.ownBlock → (v'.ownBlock = v.ownBlock ∨ v'.ownBlock = some w.heap.size) → K (a.put o.dst v') w') :
    if Region.wanted o (yielded ops a.tmps) = true then Oper.wp P o a w K Q else E := by
  have hw : Region.wanted o (yielded ops a.tmps) = true := by simp [Region.wanted, hgu]
  rw [if_pos hw]
  exact step_appG t e size bytes z hu hin hzs hsz s x ho base v n xs hs hown A m c news hx hl hnews h1 h63 hby hbase h
end
theorem own_slice {w : World} {base : Nat} {e : TypeId} {size : Nat} {v : Value} {n : Nat} {xs : List Value} (h : w.ownsRow base e size v n xs) : ∃ A n c, v = .slice A n c := by
  rcases h.2 with ⟨rfl, _⟩ | ⟨g, cap, cur, rfl, _⟩
  · exact ⟨_, _, _, rfl⟩
  · exact ⟨_, _, _, rfl⟩
theorem news2 {w : World} {a b : Value} {t : TypeId} : ∀ j u, ([a, b] : List Value)[j]? = some u → (w.alloc (.cells #[a, b] t)).cell? ((⟨w.heap.size, 0, none⟩ : Addr).add j) = some u := fun j u h => by
  rw [Addr.add_lit, Nat.zero_add, World.cell?_alloc_mark]
  simpa using h
theorem news3 {w : World} {a b c : Value} {t : TypeId} : ∀ j u, ([a, b, c] : List Value)[j]? = some u → (w.alloc (.cells #[a, b, c] t)).cell? ((⟨w.heap.size, 0, none⟩ : Addr).add j) = some u := fun j u h => by
  rw [Addr.add_lit, Nat.zero_add, World.cell?_alloc_mark]
  simpa using h

end Go.Proofs.YtplpakdbahlgaaaDoor

namespace Go.Proofs.YtplpakdbahlgaaaDoor
open Go.RowKit

section
variable {P : Program} {w : World} {ops : Array Oper} {rest : List Oper} {o : Oper} {a : Act} {Q : Exit → Act → World → Prop}
theorem wpList_appG (hgd : o.guard = none) (t e : TypeId) (size bytes : Nat) (z : Value) (hu : P.underlying t = some (.slice e)) (hin : (P.info? e).map (fun i => (i.zero, i.size, i.bytes)) = some (some z, size, bytes)) (hzs : z.cells.size = size) (hsz : 0 < size)
    (s x : Operand) (ho : o.op = .call { callee := .builtin .append, args := #[s, x], argTypes := #[t, t] })
    (base : Nat) (v : Value) (n : Nat) (xs : List Value) (hs : a.eval s = v) (hown : w.ownsRow base e size v n xs) (A : Addr) (m c : Nat) (news : List Value) (hx : a.eval x = .slice (some A) m c) (hl : news.length = m * size)
    (hnews : ∀ j u, news[j]? = some u → w.cell? (A.add j) = some u) (h1 : ∀ u ∈ news, u.oneCell' = true) (h63 : n + m ≤ maxLen) (hby : (n + m) * bytes ≤ 140737488355328) (hbase : base ≤ w.heap.size)
    (h : ∀ v' w', w'.ownsRow base e size v' (n + m) (xs ++ news) → w.grownBy w' v.ownBlock → (v'.ownBlock = v.ownBlock ∨ v'.ownBlock = some w.heap.size) → wpList P ops Q rest (a.put o.dst v') w') : wpList P ops Q (o :: rest) a w := by
  refine wpList_plain hgd fun K hK => ?_
  exact step_appG t e size bytes z hu hin hzs hsz s x ho base v n xs hs hown A m c news hx hl hnews h1 h63 hby hbase fun v' w' h2 h3 h4 => hK _ _ (h v' w' h2 h3 h4)
end
theorem mk_one (l : List Ix.Mark) : ∀ u ∈ l.flatMap mkCells, u.oneCell' = true := by
  intro u hu
  obtain ⟨m, _, hu⟩ := List.mem_flatMap.1 hu
  simp [mkCells] at hu
  rcases hu with rfl | rfl | rfl <;> rfl

end Go.Proofs.YtplpakdbahlgaaaDoor

namespace Go.Proofs.YtplpakdbahlgaaaDoor
open Go.RowKit

namespace Ix
/-- The first mark whose time is not below t. -/
def St.when (s : St) (t : Int) : Int × Bool := match s.marks.find? (fun m => decide (t ≤ m.time)) with | some m => (m.off, true) | none => (0, false)
theorem when_at {s : St} {t : Int} (j : Nat) (hj : j < s.marks.length) (hb : ∀ i (h : i < s.marks.length), i < j → s.marks[i].time < t) (ht : t ≤ s.marks[j].time) : s.when t = (s.marks[j].off, true) := by
  have : s.marks.find? (fun m => decide (t ≤ m.time)) = some s.marks[j] := by
    rw [List.find?_eq_some_iff_getElem]
    exact ⟨by simp [ht], j, hj, rfl, fun i hi => by have := hb i (by omega) hi; simp; omega⟩
  unfold St.when; rw [this]
theorem when_none {s : St} {t : Int} (hb : ∀ i (h : i < s.marks.length), s.marks[i].time < t) : s.when t = (0, false) := by
  have : s.marks.find? (fun m => decide (t ≤ m.time)) = none := by
    rw [List.find?_eq_none]
    intro m hm
    obtain ⟨i, hi, rfl⟩ := List.getElem_of_mem hm
    have := hb i hi
    simp; omega
  unfold St.when; rw [this]
end Ix

end Go.Proofs.YtplpakdbahlgaaaDoor

namespace Go.Proofs.YtplpakdbahlgaaaDoor
open Go.RowKit

/-- ErrRange as the program lays it. -/
abbrev Sent4 (w : World) (p : Nat → Addr) : Prop := SentsOn (fun j => j = 4) w p
theorem Ix.Ok.add {s : Ix.St} (h : Ix.Ok s) (o t p z : Int) : Ix.Ok (Ix.add s o t p z).2 := by
  unfold Ix.add
  split
  · rename_i hg; exact h.put o t p hg.1 hg.2.1 hg.2.2.2.1
  · exact h
theorem long_ix (n b : Int) (w : World) (hb : 0 < b) (hb1 : b ≤ 9223372036854775807) (h1 : -9223372036854775808 ≤ n) (h2 : n ≤ 9223372036854775807) :
    Calls Tryd.prog 31 #[.int .i64 n, .int .i64 b] w fun e w' => e = .returned (.int .i64 (n % b)) ∧ w = w' := by
  have m1 := Int.emod_nonneg n (show b ≠ 0 by omega)
  have m2 := Int.emod_lt_of_pos n hb
  by_cases h0 : 0 ≤ n
  · go_enter Tryd.func31, Tryd.ntmps31
    go_wp2
    go_ret
    exact ⟨rfl, rfl⟩
  · by_cases hm : n % b = 0
    · have t := tmod_nil n b hm
      rw [hm]
      clear hm m1 m2
      go_enter Tryd.func31, Tryd.ntmps31
      go_wp2
      go_ret
      exact ⟨rfl, rfl⟩
    · have t := tmod_up n b hb (by omega) hm
      have e : n % b - b + b = n % b := by omega
      generalize n % b = r at *
      go_enter Tryd.func31, Tryd.ntmps31
      go_wp2
      go_ret
      exact ⟨rfl, rfl⟩
end Go.Proofs.YtplpakdbahlgaaaDoor

namespace Go.Proofs.YtplpakdbahlgaaaDoor
open Go.RowKit

end Go.Proofs.YtplpakdbahlgaaaDoor

namespace Go.Proofs.YtplpakdbahlgaaaDoor
open Go.RowKit Go.Shelf Go.Sort

def lay_searchF_ren : Go.Shelf.Ren := ⟨fun | 16 => 66 | n => n, fun | 3 => 3 | 4 => 4 | 35 => 72 | 38 => 117 | n => n, fun | n => n⟩
theorem lay_searchF : Go.Proofs.SlLaysO.n16 Tryd.prog lay_searchF_ren := {
  mixed := by kernel_rfl
  f16 := Tryd.func66.trans (congrArg some (by kernel_rfl))
  t3 := Tryd.underlying3
  a3 := Tryd.isAgg3
  z3 := Tryd.sizeOf3
  v3 := Tryd.zeroValue3
  t4 := Tryd.underlying4
  a4 := Tryd.isAgg4
  z4 := Tryd.sizeOf4
  v4 := Tryd.zeroValue4
  t35 := Tryd.underlying72
  a35 := Tryd.isAgg72
  z35 := Tryd.sizeOf72
  v35 := Tryd.zeroValue72
  t38 := Tryd.underlying117
  a38 := Tryd.isAgg117
  z38 := Tryd.sizeOf117
  v38 := Tryd.zeroValue117 }

namespace Ix
def St.cnt (s : St) (o : Int) : Nat := (List.range s.marks.length).countP (fun i => !decide (o < (s.marks.getD i ⟨0, 0, 0⟩).off))
/-- The pos of the last mark that is not above o; 0 if there is none. -/
def St.find (s : St) (o : Int) : Int := if s.cnt o = 0 then 0 else (s.marks.getD (s.cnt o - 1) ⟨0, 0, 0⟩).pos
theorem St.cnt_le (s : St) (o : Int) : s.cnt o ≤ s.marks.length := by
  have := List.countP_le_length (p := fun i => !decide (o < (s.marks.getD i ⟨0, 0, 0⟩).off)) (l := List.range s.marks.length)
  simpa [St.cnt] using this
end Ix

end Go.Proofs.YtplpakdbahlgaaaDoor

namespace Go.Proofs.YtplpakdbahlgaaaDoor
open Go.RowKit Go.Shelf Go.Sort

theorem ownsRow_cut {w : World} {base : Nat} {e : TypeId} {size : Nat} {A : Option Addr} {n c : Nat} {xs : List Value} (h : w.ownsRow base e size (.slice A n c) n xs) (k : Nat) (hk : k ≤ n) : w.ownsRow base e size (.slice A k c) k (xs.take (k * size)) := by
  have hm := Nat.mul_le_mul_right size hk
  refine ⟨by rw [List.length_take, h.1]; omega, ?_⟩
  rcases h.2 with ⟨e1, h0⟩ | ⟨g, cap, cur, e1, hb, hh, hcap, hmax, hsz, hx⟩
  · injection e1 with e1 e2 e3
    subst e1 e3
    obtain rfl : k = 0 := by omega
    exact .inl ⟨rfl, rfl⟩
  · injection e1 with e1 e2 e3
    subst e1 e3
    refine .inr ⟨g, c, cur, rfl, hb, hh, by omega, hmax, hsz, ?_⟩
    rw [← hx, List.take_take, Nat.min_eq_left hm]
theorem mk_take (l : List Ix.Mark) (k : Nat) (hk : k ≤ l.length) : (l.flatMap mkCells).take (k * 3) = (l.take k).flatMap mkCells := by
  conv => lhs; rw [← List.take_append_drop k l, List.flatMap_append]
  have e := mk_len (l.take k)
  rw [List.length_take, Nat.min_eq_left hk] at e
  rw [List.take_append_of_le_length (by omega), List.take_of_length_le (by omega)]
theorem ad_take (l : List Ix.Ad) (k : Nat) (hk : k ≤ l.length) : (l.flatMap adCells).take (k * 2) = (l.take k).flatMap adCells := by
  conv => lhs; rw [← List.take_append_drop k l, List.flatMap_append]
  have e := ad_len (l.take k)
  rw [List.length_take, Nat.min_eq_left hk] at e
  rw [List.take_append_of_le_length (by omega), List.take_of_length_le (by omega)]

namespace Ix
def St.cntM (s : St) (p : Int) : Nat := (List.range s.marks.length).countP (fun i => !decide (p ≤ (s.marks.getD i ⟨0, 0, 0⟩).pos))
def St.cntA (s : St) (p : Int) : Nat := (List.range s.adds.length).countP (fun i => !decide (p ≤ (s.adds.getD i ⟨0, 0⟩).pos))
def lastTime (l : List Mark) : Int := match l.getLast? with | some m => m.time | none => -1099511627776
/-- What lies at p, and behind, is away. -/
def St.cut (s : St) (p : Int) : St := ⟨s.every, s.marks.take (s.cntM p), s.adds.take (s.cntA p), lastTime (s.marks.take (s.cntM p))⟩
theorem St.cntM_le (s : St) (p : Int) : s.cntM p ≤ s.marks.length := by
  have := List.countP_le_length (p := fun i => !decide (p ≤ (s.marks.getD i ⟨0, 0, 0⟩).pos)) (l := List.range s.marks.length)
  simpa [St.cntM] using this
theorem St.cntA_le (s : St) (p : Int) : s.cntA p ≤ s.adds.length := by
  have := List.countP_le_length (p := fun i => !decide (p ≤ (s.adds.getD i ⟨0, 0⟩).pos)) (l := List.range s.adds.length)
  simpa [St.cntA] using this
end Ix

end Go.Proofs.YtplpakdbahlgaaaDoor
