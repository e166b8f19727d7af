/-
  A disk as plain data: files, the names that lead to them, the names as they were synced, the moves since; what each call makes of it.
  A disk in memory: what lies where; what a call leaves of all else.
  What stands ahead of a disk's calls: the power, the file of a name, whether a name may be.
  A disk's maps of names: looked up, stored into, struck from, at the operation; and whether a name may be.
  The file of a name; what is ahead of a call that changes a file; the first bytes of a file kept.
  One file of a disk is turned; its first bytes kept.
  The calls of a disk that change a file: Sync, Cut, Append.
  A move is done within a map of names.
  A statement whose order is open, with operations that are guarded ('&&', '||') and calls that may write: each operation is shown once, from what its own operands are known to be; what is known of a slot must outlive whatever the region does (a relation G of worlds). Not of any one program.
  A statement whose order is open, whose last operation stores what the others have made: each operation is shown once; what is known of a slot outlives whatever the region may do (a relation G of worlds). Not of any one program.
  A move is laid behind the row of a disk's moves: in its place, or in a new row; what that leaves of all else, however often it were done.
-/
import Derived.Test.YtfdppggdgdnnaaaGreatDoorRows
import Derived.Test.YtfdppggdgdnnaaaGreatDoorZ1
import Derived.Maps.OwnSet
import Derived.Maps.RangeWalk
import Derived.Sort.KeysCollected
import Derived.Maps.OwnIn
import Derived.Deep.QuietTactic
import Derived.BigQuiet
import Derived.Deep.Cut
namespace Go.Proofs.YtfdppggdgdnnaaaGreatDoor.Dk

/-- A name, as its bytes. -/
abbrev Nm := List UInt8
/-- Which file a name leads to. -/
abbrev Dir := Nm → Option Nat
def upd (f : Dir) (k : Nm) (v : Option Nat) : Dir := fun x => if x = k then v else f x
theorem upd_same (f : Dir) (k : Nm) (v : Option Nat) : upd f k v k = v := by simp [upd]
theorem upd_other (f : Dir) (k x : Nm) (v : Option Nat) (h : x ≠ k) : upd f k v x = f x := by simp [upd, h]

structure File where
  born : Int
  bytes : List UInt8
  synced : Nat
deriving Inhabited

structure Mv where
  frm : Nm
  to : Nm
  file : Option Nat
deriving Inhabited

def Mv.on (m : Mv) (f : Dir) : Dir :=
  if m.to = [] then (if m.frm = [] then f else upd f m.frm none) else upd (if m.frm = [] then f else upd f m.frm none) m.to m.file
def ons (ms : List Mv) (f : Dir) : Dir := ms.foldl (fun g m => m.on g) f
theorem ons_snoc (ms : List Mv) (m : Mv) (f : Dir) : ons (ms ++ [m]) f = m.on (ons ms f) := by simp [ons]

structure St where
  room : Int
  names : Dir
  dur : Dir
  since : List Mv
  used : Int
  calls : Int
  armed : Int
  down : Bool
  files : Nat → File

def St.setFile (s : St) (i : Nat) (f : File) : St := { s with files := fun k => if k = i then f else s.files k }
theorem setFile_same (s : St) (i : Nat) (f : File) : (s.setFile i f).files i = f := by simp [St.setFile]
theorem setFile_other (s : St) (i k : Nat) (f : File) (h : k ≠ i) : (s.setFile i f).files k = s.files k := by simp [St.setFile, h]

/-- A disk as New makes it. -/
def St.new (room : Int) : St := { room := room, names := fun _ => none, dur := fun _ => none, since := [], used := 0, calls := 0, armed := 0, down := false, files := fun _ => default }

/-- What stands ahead of a call that changes. -/
def St.begin (s : St) : St := if 0 < s.armed then { s with armed := s.armed - 1, down := s.down || decide (s.armed - 1 = 0) } else s

def okByte (c : UInt8) : Bool := (97 ≤ c && c ≤ 122) || (48 ≤ c && c ≤ 57) || c == 46 || c == 45 || c == 95
def valid (n : Nm) : Bool := decide (1 ≤ n.length) && decide (n.length ≤ 64) && n.all okByte

/-- A move is done, and kept. -/
def St.doMove (s : St) (m : Mv) : St := { s with names := m.on s.names, since := s.since ++ [m], calls := s.calls + 1 }
/-- The first n moves are made durable. -/
def St.settle (s : St) (n : Nat) : St := { s with dur := ons (s.since.take n) s.dur, since := [] }
def File.keep (f : File) (n : Nat) : File := { f with bytes := f.bytes.take n, synced := n }

/-- How a call ends: which error (its number among the package's), and the disk. -/
abbrev End := Option Nat × St

def St.find (s : St) (name : Nm) : Option Nat × Option Nat :=
  if s.down then (some 9, none) else match s.names name with | none => (some 6, none) | some i => (none, some i)

def St.create (s : St) (name : Nm) (id : Nat) : End :=
  if s.begin.down then (some 9, s.begin)
  else if valid name = false then (some 5, s.begin)
  else if s.begin.names name ≠ none then (some 7, s.begin)
  else (none, (s.begin.setFile id ⟨s.begin.calls, [], 0⟩).doMove ⟨[], name, some id⟩)

def St.append (s : St) (name : Nm) (b : List UInt8) : End :=
  match s.begin.find name with
  | (some j, _) => (some j, s.begin)
  | (none, none) => (none, s.begin)
  | (none, some i) =>
    if s.begin.room - s.begin.used < b.length then (some 8, s.begin)
    else (none, { s.begin.setFile i { s.begin.files i with bytes := (s.begin.files i).bytes ++ b } with used := s.begin.used + b.length, calls := s.begin.calls + 1 })

def St.cut (s : St) (name : Nm) (n : Int) : End :=
  match s.begin.find name with
  | (some j, _) => (some j, s.begin)
  | (none, none) => (none, s.begin)
  | (none, some i) =>
    if n < 0 ∨ ((s.begin.files i).bytes.length : Int) < n then (some 4, s.begin)
    else (none, { s.begin.setFile i ((s.begin.files i).keep n.toNat) with used := s.begin.used - (((s.begin.files i).bytes.length : Int) - n), calls := s.begin.calls + 1 })

def St.sync (s : St) (name : Nm) : End :=
  match s.begin.find name with
  | (some j, _) => (some j, s.begin)
  | (none, none) => (none, s.begin)
  | (none, some i) => (none, { s.begin.setFile i ((s.begin.files i).keep (s.begin.files i).bytes.length) with calls := s.begin.calls + 1 })

def St.rename (s : St) (frm to : Nm) : End :=
  match s.begin.find frm with
  | (some j, _) => (some j, s.begin)
  | (none, none) => (none, s.begin)
  | (none, some i) =>
    if valid to = false then (some 5, s.begin)
    else
      let u := match s.begin.names to with
        | none => s.begin.used
        | some o => if o = i then s.begin.used else s.begin.used - (s.begin.files o).bytes.length
      (none, { s.begin with used := u }.doMove ⟨frm, to, some i⟩)

def St.remove (s : St) (name : Nm) : End :=
  match s.begin.find name with
  | (some j, _) => (some j, s.begin)
  | (none, none) => (none, s.begin)
  | (none, some i) => (none, { s.begin with used := s.begin.used - (s.begin.files i).bytes.length }.doMove ⟨name, [], none⟩)

def St.syncDir (s : St) : End :=
  if s.begin.down then (some 9, s.begin) else (none, { s.begin.settle s.begin.since.length with calls := s.begin.calls + 1 })

/-- The i-th pick, taken round as 0 to most. -/
def pick (picks : List Int) (i : Nat) (most : Nat) : Nat := if i < picks.length then ((picks.getD i 0) % ((most : Int) + 1)).toNat else 0
theorem pick_le (picks : List Int) (i most : Nat) : pick picks i most ≤ most := by
  unfold pick
  split
  · have h1 := Int.emod_nonneg (picks.getD i 0) (show ((most : Int) + 1) ≠ 0 by omega)
    have h2 := Int.emod_lt_of_pos (picks.getD i 0) (show (0 : Int) < (most : Int) + 1 by omega)
    omega
  · omega

/-- The files of a list are kept so far, from the i-th pick on; how many bytes that is. -/
def St.keepAll (picks : List Int) : Nat → List Nat → St → St
  | _, [], s => s
  | i, f :: fs, s =>
    let k := (s.files f).synced + pick picks i ((s.files f).bytes.length - (s.files f).synced)
    St.keepAll picks (i + 1) fs { s.setFile f ((s.files f).keep k) with used := s.used + k }
def St.crash (s : St) (picks : List Int) (order : List Nat) : St :=
  let t := s.settle (pick picks 0 s.since.length)
  let u := St.keepAll picks 1 order { t with names := t.dur, used := 0 }
  { u with armed := 0, down := false }

/-- All files that have a name, each once for each of its names. -/
def Vals (f : Dir) (l : List Nat) : Prop := ∃ ks : List Nm, ks.Nodup ∧ (∀ k, k ∈ ks ↔ f k ≠ none) ∧ l.map some = ks.map f
/-- The elder first. -/
def Order (s : St) (f : Dir) (l : List Nat) : Prop := ∃ l', Vals f l' ∧ l.Perm l' ∧ l.Pairwise fun a b => (s.files a).born ≤ (s.files b).born
end Go.Proofs.YtfdppggdgdnnaaaGreatDoor.Dk

namespace Go.Proofs.YtfdppggdgdnnaaaGreatDoor
open Go.RowKit Go.Maps

/-- Blocks of which S does not hold lie as they lay. -/
structure Chg (S : Nat → Prop) (w w' : World) : Prop where
  os : w'.os = w.os
  tape : w'.tape = w.tape
  output : w'.output = w.output
  size : w.heap.size ≤ w'.heap.size
  block : ∀ k, k < w.heap.size → ¬ S k → w'.heap[k]? = w.heap[k]?
/-- S, and what is new since. -/
def Up (S : Nat → Prop) (w w' : World) : Nat → Prop := fun k => S k ∨ (w.heap.size ≤ k ∧ k < w'.heap.size)
theorem Chg.refl (S : Nat → Prop) (w : World) : Chg S w w := ⟨rfl, rfl, rfl, Nat.le_refl _, fun _ _ _ => rfl⟩
theorem Chg.trans {S T : Nat → Prop} {a b c : World} (h : Chg S a b) (k : Chg T b c) (hT : ∀ i, i < a.heap.size → T i → S i) : Chg S a c :=
  ⟨k.os.trans h.os, k.tape.trans h.tape, k.output.trans h.output, Nat.le_trans h.size k.size, fun i hi hn => (k.block i (Nat.lt_of_lt_of_le hi h.size) (fun t => hn (hT i hi t))).trans (h.block i hi hn)⟩
theorem Chg.up {S : Nat → Prop} {a b c : World} (h : Chg S a b) (k : Chg (Up S a b) b c) : Chg S a c := h.trans k fun i hi t => by rcases t with t | t; exact t; omega
theorem Chg.then {S : Nat → Prop} {a b c : World} (h : Chg S a b) (k : Chg S b c) : Chg S a c := h.trans k fun _ _ t => t
theorem Chg.mono {S T : Nat → Prop} {a b : World} (h : Chg S a b) (hT : ∀ i, S i → T i) : Chg T a b := ⟨h.os, h.tape, h.output, h.size, fun k hk hn => h.block k hk fun s => hn (hT k s)⟩
theorem Chg.of_below {S : Nat → Prop} {w w' : World} (h : Below w.heap.size w w') : Chg S w w' := ⟨h.os, h.tape, h.output, h.size, fun k hk _ => h.block k hk⟩
theorem Chg.of_grown {S : Nat → Prop} {w w' : World} {row : Option Nat} (h : w.grownBy w' row) (hr : ∀ k, row = some k → S k) : Chg S w w' :=
  ⟨h.os, h.tape, h.output, h.size, fun k hk hn => h.block k hk fun e => hn (hr k e.symm)⟩
theorem Chg.setCell {S : Nat → Prop} (w : World) (g i : Nat) (v : Value) (hS : S g) : Chg S w (w.setCell ⟨g, i, none⟩ v) :=
  ⟨rfl, rfl, rfl, by simp, fun k _ hn => Below.heap_setCell _ _ _ _ (by intro e; subst e; exact hn hS)⟩
theorem Chg.below {S : Nat → Prop} {w w' : World} {C : Nat} (h : Chg S w w') (hC : C ≤ w.heap.size) (hS : ∀ k, S k → C ≤ k) : Below C w w' :=
  ⟨h.os, h.tape, h.output, h.size, fun k hk => h.block k (by omega) fun s => by have := hS k s; omega⟩
theorem Chg.cell {S : Nat → Prop} {w w' : World} (h : Chg S w w') {b o : Nat} {v : Value} (hc : w.cell? ⟨b, o, none⟩ = some v) (hn : ¬ S b) : w'.cell? ⟨b, o, none⟩ = some v := by
  have hb := h.block b (World.block_lt_of_cell? w _ hc) hn
  simpa [World.cell?, hb] using hc
theorem up_self {S : Nat → Prop} {a b : World} : ∀ k, S k → Up S a b k := fun _ h => .inl h
theorem up_up {S : Nat → Prop} {a b c : World} (h1 : a.heap.size ≤ b.heap.size) (h2 : b.heap.size ≤ c.heap.size) : ∀ k, Up (Up S a b) b c k → Up S a c k := by
  rintro k ((h | h) | h)
  · exact .inl h
  · exact .inr (by omega)
  · exact .inr (by omega)

/-- A pointer to a file, as a map's element. -/
def ptrE (v : Value) : Option (DataW Unit × List MemPlace) :=
  match v with
  | .pointer none => some (.lit (.int .i64 (-1)), [])
  | .pointer (some ⟨b, 0, none⟩) => some (.lit (.int .i64 b), [])
  | _ => none
def fileV : Option Nat → Value
  | none => .pointer none
  | some i => .pointer (some ⟨i, 0, none⟩)
def fileD : Option Nat → DataW Unit → DataW Unit
  | none, z => z
  | some i, _ => .lit (.int .i64 (i : Int))
theorem ptrE_file (i : Nat) : ptrE (fileV (some i)) = some (.lit (.int .i64 (i : Int)), []) := rfl
theorem ptrE_nil : ptrE (.pointer none) = some (.lit (.int .i64 (-1)), []) := rfl
/-- What reads so is that file's pointer. -/
theorem ptrE_inv {v : Value} {f : Option Nat} {ps : List MemPlace} (h : ptrE v = some (fileD f (.lit (.int .i64 (-1))), ps)) : v = fileV f := by
  unfold ptrE at h
  split at h
  · cases f with
    | none => rfl
    | some i => simp [fileD] at h <;> omega
  · rename_i b
    cases f with
    | none => simp [fileD] at h <;> omega
    | some i =>
      simp [fileD] at h
      obtain ⟨h, _⟩ := h
      have : b = i := by omega
      subst this
      rfl
  · cases h

/-- A map from names to files. -/
structure NamesAt (w : World) (b n : Nat) (f : Dk.Dir) : Prop where
  ex : ∃ D, w.ownsMap Tryz.prog 9 ptrE b n D ∧ ∀ k zd, D.atKey (.string k) zd = fileD (f k) zd
theorem str_law : Keyed Tryz.prog 9 := string_keyed Tryz.underlying9
theorem NamesAt.mono {w : World} {b n m : Nat} {f : Dk.Dir} (h : NamesAt w b n f) (hm : n ≤ m) : NamesAt w b m f := by
  obtain ⟨D, h1, h2⟩ := h.ex; exact ⟨D, h1.mono hm, h2⟩
theorem NamesAt.lt {w : World} {b n : Nat} {f : Dk.Dir} (h : NamesAt w b n f) : b < w.heap.size := by
  obtain ⟨D, h1, _⟩ := h.ex; exact h1.lt
theorem NamesAt.same {w w' : World} {b n : Nat} {f : Dk.Dir} (h : NamesAt w b n f) (hb : w'.heap[b]? = w.heap[b]?) : NamesAt w' b n f := by
  obtain ⟨D, ⟨es, clock, h1, h3⟩, h2⟩ := h.ex
  exact ⟨D, ⟨es, clock, hb.trans h1, h3⟩, h2⟩
theorem NamesAt.made (w : World) : NamesAt (w.alloc (.map #[] 0)) w.heap.size 0 (fun _ => none) :=
  ⟨.map [], World.ownsMap_made _ _ _ _, fun k zd => by simp [DataW.atKey, fileD]⟩
end Go.Proofs.YtfdppggdgdnnaaaGreatDoor
namespace Go.Proofs.YtfdppggdgdnnaaaGreatDoor
open Go.RowKit Go.Maps

def mvCells (m : Dk.Mv) : List Value := [encStr m.frm, encStr m.to, fileV m.file]
def diskCells (s : Dk.St) (nb db : Nat) (sv : Value) : Array Value :=
  #[.int .i64 s.room, .map (some nb), .map (some db), sv, .int .i64 s.used, .int .i64 s.calls, .int .i64 s.armed, .bool s.down]

/-- A file at its block, its bytes in the row that v tells. -/
structure FileAt (w : World) (i : Nat) (v : Value) (f : Dk.File) : Prop where
  box : w.heap[i]? = some (.cells #[.int .i64 f.born, v, .int .i64 (f.synced : Int)] 132 (0, 0))
  row : Own w 0 v f.bytes
  sync : f.synced ≤ f.bytes.length

/-- A disk, with where each of its parts lies; S holds of all its blocks. -/
structure DiskL (w : World) (Bd nb db : Nat) (sv : Value) (ids : List Nat) (row : Nat → Value) (s : Dk.St) (S : Nat → Prop) : Prop where
  box : w.heap[Bd]? = some (.cells (diskCells s nb db sv) 126 (0, 0))
  names : NamesAt w nb s.calls.toNat s.names
  dur : ∃ m, NamesAt w db m s.dur ∧ m + s.since.length ≤ s.calls.toNat
  ne : nb ≠ db
  since : w.ownsRow 0 142 3 sv s.since.length (s.since.flatMap mvCells)
  nodup : ids.Nodup
  file : ∀ i ∈ ids, FileAt w i (row i) (s.files i)
  apart : ∀ i ∈ ids, ∀ j ∈ ids, i ≠ j → ∀ g, (row i).ownBlock = some g → (row j).ownBlock ≠ some g
  nref : ∀ k i, s.names k = some i → i ∈ ids ∧ k ≠ [] ∧ k.length ≤ 64
  dref : ∀ k i, s.dur k = some i → i ∈ ids ∧ k ≠ [] ∧ k.length ≤ 64
  sref : ∀ m ∈ s.since, (∀ i, m.file = some i → i ∈ ids) ∧ (m.to ≠ [] → m.file ≠ none) ∧ m.frm.length ≤ 64 ∧ m.to.length ≤ 64
  calls : 0 ≤ s.calls
  mBd : S Bd
  mnb : S nb
  mdb : S db
  msv : ∀ g, sv.ownBlock = some g → S g
  mid : ∀ i ∈ ids, S i
  mrow : ∀ i ∈ ids, ∀ g, (row i).ownBlock = some g → S g
/-- A disk whose blocks are S's. -/
def IsDisk (w : World) (Bd : Nat) (s : Dk.St) (S : Nat → Prop) : Prop := ∃ nb db sv ids row, DiskL w Bd nb db sv ids row s S

theorem ownsRow_same {w w' : World} {base : Nat} {e : TypeId} {size : Nat} {v : Value} {n : Nat} {xs : List Value} (h : w.ownsRow base e size v n xs) (hb : ∀ g, v.ownBlock = some g → w'.heap[g]? = w.heap[g]?) : w'.ownsRow base e size v n xs := by
  refine ⟨h.1, ?_⟩
  rcases h.2 with h2 | ⟨g, cap, cur, rfl, hg, hh, r⟩
  · exact .inl h2
  · exact .inr ⟨g, cap, cur, rfl, hg, (hb g rfl).trans hh, r⟩
theorem FileAt.same {w w' : World} {i : Nat} {v : Value} {f : Dk.File} (h : FileAt w i v f) (hi : w'.heap[i]? = w.heap[i]?) (hb : ∀ g, v.ownBlock = some g → w'.heap[g]? = w.heap[g]?) : FileAt w' i v f :=
  ⟨hi.trans h.box, ownsRow_same h.row hb, h.sync⟩
theorem DiskL.kept {w w' : World} {Bd nb db : Nat} {sv : Value} {ids : List Nat} {row : Nat → Value} {s : Dk.St} {S : Nat → Prop} (h : DiskL w Bd nb db sv ids row s S) (hk : ∀ k, S k → k < w.heap.size → w'.heap[k]? = w.heap[k]?) : DiskL w' Bd nb db sv ids row s S := by
  have lt : ∀ {k : Nat} {o : Obj}, w.heap[k]? = some o → k < w.heap.size := fun h => (Array.getElem?_eq_some_iff.1 h).1
  obtain ⟨m, hd, hm⟩ := h.dur
  refine { h with box := (hk _ h.mBd (lt h.box)).trans h.box, names := h.names.same (hk _ h.mnb h.names.lt), dur := ⟨m, hd.same (hk _ h.mdb hd.lt), hm⟩, since := ownsRow_same h.since fun g hg => hk _ (h.msv g hg) (h.since.lt g hg).2, file := fun i hi => ?_ }
  exact (h.file i hi).same (hk _ (h.mid i hi) (lt (h.file i hi).box)) fun g hg => hk _ (h.mrow i hi g hg) ((h.file i hi).row.lt g hg).2
theorem DiskL.mono {w : World} {Bd nb db : Nat} {sv : Value} {ids : List Nat} {row : Nat → Value} {s : Dk.St} {S T : Nat → Prop} (h : DiskL w Bd nb db sv ids row s S) (hT : ∀ k, S k → T k) : DiskL w Bd nb db sv ids row s T :=
  { h with mBd := hT _ h.mBd, mnb := hT _ h.mnb, mdb := hT _ h.mdb, msv := fun g hg => hT _ (h.msv g hg), mid := fun i hi => hT _ (h.mid i hi), mrow := fun i hi g hg => hT _ (h.mrow i hi g hg) }
theorem IsDisk.kept {w w' : World} {Bd : Nat} {s : Dk.St} {S : Nat → Prop} (h : IsDisk w Bd s S) (hk : ∀ k, S k → k < w.heap.size → w'.heap[k]? = w.heap[k]?) : IsDisk w' Bd s S := by
  obtain ⟨nb, db, sv, ids, row, h⟩ := h; exact ⟨nb, db, sv, ids, row, h.kept hk⟩
theorem IsDisk.below {w w' : World} {Bd : Nat} {s : Dk.St} {S : Nat → Prop} (h : IsDisk w Bd s S) (hb : Below w.heap.size w w') : IsDisk w' Bd s S := h.kept fun k _ hk => hb.block k hk
theorem IsDisk.mono {w : World} {Bd : Nat} {s : Dk.St} {S T : Nat → Prop} (h : IsDisk w Bd s S) (hT : ∀ k, S k → T k) : IsDisk w Bd s T := by
  obtain ⟨nb, db, sv, ids, row, h⟩ := h; exact ⟨nb, db, sv, ids, row, h.mono hT⟩

/-- The disk's own box is written. -/
theorem DiskL.set {w : World} {Bd nb db : Nat} {sv : Value} {ids : List Nat} {row : Nat → Value} {s : Dk.St} {S : Nat → Prop} (h : DiskL w Bd nb db sv ids row s S) (i : Nat) (v : Value) (s' : Dk.St) (hc : (diskCells s nb db sv).setIfInBounds i v = diskCells s' nb db sv)
    (hn : s'.names = s.names) (hd : s'.dur = s.dur) (hs : s'.since = s.since) (hf : s'.files = s.files) (hl : s.calls ≤ s'.calls) : DiskL (w.setCell ⟨Bd, i, none⟩ v) Bd nb db sv ids row s' S := by
  have hoth : ∀ k, k ≠ Bd → (w.setCell ⟨Bd, i, none⟩ v).heap[k]? = w.heap[k]? := fun k hk => Below.heap_setCell _ _ _ _ hk
  have hcl := h.calls
  obtain ⟨m, hdn, hm⟩ := h.dur
  have n1 : nb ≠ Bd := by
    obtain ⟨D, ⟨es, clock, h1, _⟩, _⟩ := h.names.ex
    intro e; subst e; rw [h.box] at h1; cases h1
  have n2 : db ≠ Bd := by
    obtain ⟨D, ⟨es, clock, h1, _⟩, _⟩ := hdn.ex
    intro e; subst e; rw [h.box] at h1; cases h1
  have tne1 : 142 ≠ 126 := by decide
  have tne2 : 132 ≠ 126 := by decide
  have tne3 : 5 ≠ 126 := by decide
  have n3 : ∀ g, sv.ownBlock = some g → g ≠ Bd := by
    intro g hg e
    subst e
    rcases h.since.2 with ⟨e, _⟩ | ⟨g', cap, cur, e, _, hh, _⟩
    · rw [e] at hg; cases hg
    · rw [e] at hg; injection hg with hg; subst hg
      have := h.box.symm.trans hh
      injection this with this; injection this with _ this _; exact tne1 this.symm
  have n4 : ∀ j ∈ ids, j ≠ Bd := by
    intro j hj e
    subst e
    have := h.box.symm.trans (h.file j hj).box
    injection this with this; injection this with _ this _; exact tne2 this.symm
  have n5 : ∀ j ∈ ids, ∀ g, (row j).ownBlock = some g → g ≠ Bd := by
    intro j hj g hg e
    subst e
    rcases (h.file j hj).row.2 with ⟨e, _⟩ | ⟨g', cap, cur, e, _, hh, _⟩
    · rw [e] at hg; cases hg
    · rw [e] at hg; injection hg with hg; subst hg
      have := h.box.symm.trans hh
      injection this with this; injection this with _ this _; exact tne3 this.symm
  have hbx := heap_setCell_same w Bd i _ _ v h.box
  refine { box := (by rw [hbx, ← hc]), names := ?_, dur := ⟨m, (by rw [hd]; exact hdn.same (hoth _ n2)), (by rw [hs]; omega)⟩, ne := h.ne, since := (by rw [hs]; exact ownsRow_same h.since fun g hg => hoth _ (n3 g hg)), nodup := h.nodup, file := fun j hj => (by rw [hf]; exact (h.file j hj).same (hoth _ (n4 j hj)) fun g hg => hoth _ (n5 j hj g hg)), apart := h.apart, nref := (by rw [hn]; exact h.nref), dref := (by rw [hd]; exact h.dref), sref := (by rw [hs]; exact h.sref), calls := (by omega), mBd := h.mBd, mnb := h.mnb, mdb := h.mdb, msv := h.msv, mid := h.mid, mrow := h.mrow }
  rw [hn]; exact (h.names.same (hoth _ n1)).mono (by omega)
end Go.Proofs.YtfdppggdgdnnaaaGreatDoor

namespace Go.Proofs.YtfdppggdgdnnaaaGreatDoor
open Go.RowKit Go.Maps

/-- An error that is nil, or one of the package's. -/
def errR (p : Nat → Addr) : Option Nat → Value
  | none => .nilIface
  | some j => errV (p j)
/-- The errors that a disk tells. -/
abbrev SentsD (w : World) (p : Nat → Addr) : Prop := SentsOn (fun j => 4 ≤ j ∧ j ≤ 9) w p
theorem SentsD.c9 {w : World} {p : Nat → Addr} (h : SentsD w p) : w.cell? ⟨6, 0, none⟩ = some (errV (p 9)) := h.cell 9 (by omega)
theorem SentsD.c8 {w : World} {p : Nat → Addr} (h : SentsD w p) : w.cell? ⟨5, 0, none⟩ = some (errV (p 8)) := h.cell 8 (by omega)
theorem SentsD.c7 {w : World} {p : Nat → Addr} (h : SentsD w p) : w.cell? ⟨4, 0, none⟩ = some (errV (p 7)) := h.cell 7 (by omega)
theorem SentsD.c6 {w : World} {p : Nat → Addr} (h : SentsD w p) : w.cell? ⟨7, 0, none⟩ = some (errV (p 6)) := h.cell 6 (by omega)
theorem SentsD.c5 {w : World} {p : Nat → Addr} (h : SentsD w p) : w.cell? ⟨3, 0, none⟩ = some (errV (p 5)) := h.cell 5 (by omega)
theorem SentsD.c4 {w : World} {p : Nat → Addr} (h : SentsD w p) : w.cell? ⟨0, 0, none⟩ = some (errV (p 4)) := h.cell 4 (by omega)

theorem box_cell {w : World} {b : Nat} {c : Array Value} {t : TypeId} {fz : Nat × Nat} (h : w.heap[b]? = some (.cells c t fz)) (k : Nat) : w.cell? ⟨b, k, none⟩ = c[k]? := by simp [World.cell?, h]
theorem box_free {w : World} {b : Nat} {c : Array Value} {t : TypeId} (h : w.heap[b]? = some (.cells c t (0, 0))) (k : Nat) : w.frozen? ⟨b, k, none⟩ = false := by simp [World.frozen?, h]

theorem begin_set {w : World} {Bd nb db : Nat} {sv : Value} {ids : List Nat} {row : Nat → Value} {s : Dk.St} {S : Nat → Prop} (h : DiskL w Bd nb db sv ids row s S) (a : Int) (d : Bool) :
    DiskL ((w.setCell ⟨Bd, 6, none⟩ (.int .i64 a)).setCell ⟨Bd, 7, none⟩ (.bool d)) Bd nb db sv ids row { s with armed := a, down := d } S :=
  (h.set 6 (.int .i64 a) { s with armed := a } rfl rfl rfl rfl rfl (Int.le_refl _)).set 7 (.bool d) { s with armed := a, down := d } rfl rfl rfl rfl rfl (Int.le_refl _)

set_option maxRecDepth 100000 in
theorem begin_any (Bd nb db : Nat) (sv : Value) (ids : List Nat) (row : Nat → Value) (s : Dk.St) (S : Nat → Prop) (p : Nat → Addr) (w : World) (hs : SentsD w p) (h : DiskL w Bd nb db sv ids row s S) (ha : -9223372036854775808 ≤ s.armed ∧ s.armed ≤ 9223372036854775807) (_hB : Bd ≠ 6) :
    Calls Tryz.prog 91 #[.pointer (some ⟨Bd, 0, none⟩)] w fun e w' => e = .returned (errR p (if s.begin.down then some 9 else none)) ∧ DiskL w' Bd nb db sv ids row s.begin S ∧ Chg (fun k => k = Bd) w w' ∧ w'.heap.size = w.heap.size := by
  have c6 : w.cell? ⟨Bd, 6, none⟩ = some (.int .i64 s.armed) := box_cell h.box 6
  have c7 : w.cell? ⟨Bd, 7, none⟩ = some (.bool s.down) := box_cell h.box 7
  have f6 := box_free h.box 6
  have f7 := box_free h.box 7
  have g9 := hs.c9
  have HH := hide h
  obtain ⟨t, ht⟩ : ∃ t, t = s.begin := ⟨_, rfl⟩
  obtain ⟨r, hr⟩ : ∃ r : Option Nat, r = (if s.begin.down then some 9 else none) := ⟨_, rfl⟩
  rw [← hr, ← ht]
  have HT := hide ht
  have HR := hide hr
  clear h hs ht hr
  obtain ⟨room, names, dur, since, used, calls, armed, down, files⟩ := s
  simp only at c6 c7 ha
  have key : ∀ a d, t = { room, names, dur, since, used, calls, armed := a, down := d, files } → DiskL ((w.setCell ⟨Bd, 6, none⟩ (.int .i64 a)).setCell ⟨Bd, 7, none⟩ (.bool d)) Bd nb db sv ids row t S ∧ Chg (fun k => k = Bd) w ((w.setCell ⟨Bd, 6, none⟩ (.int .i64 a)).setCell ⟨Bd, 7, none⟩ (.bool d)) ∧ ((w.setCell ⟨Bd, 6, none⟩ (.int .i64 a)).setCell ⟨Bd, 7, none⟩ (.bool d)).heap.size = w.heap.size := fun a d e => by
    rw [e]
    exact ⟨begin_set HH.out a d, (Chg.setCell (S := fun k => k = Bd) w Bd 6 _ rfl).then (Chg.setCell (S := fun k => k = Bd) _ Bd 7 _ rfl), by simp⟩
  have KEY := hide key
  clear key
  by_cases h0 : 0 < armed
  · have hw : IntKind.i64.wrap (armed - 1) = armed - 1 := IntWalk.i64_in _ (by omega)
    cases down <;> by_cases h1 : armed - 1 = 0
    all_goals
      go_enter Tryz.func91, Tryz.ntmps91
      go_wp2_with fail
      go_ret
      exact ⟨by rw [HR.out]; simp [Dk.St.begin, h0, h1, errR], KEY.out _ _ (by rw [HT.out]; simp [Dk.St.begin, h0, h1])⟩
  · have key : t = { room, names, dur, since, used, calls, armed, down, files } := by rw [HT.out]; simp [Dk.St.begin, h0]
    have key2 : r = if down then some 9 else none := by rw [HR.out]; simp [Dk.St.begin, h0]
    have HK := hide key
    have HK2 := hide key2
    clear key key2
    cases down
    all_goals
      go_enter Tryz.func91, Tryz.ntmps91
      go_wp2_with fail
      go_ret
      exact ⟨by rw [HK2.out]; simp [errR], by rw [HK.out]; exact HH.out, Chg.refl _ _, rfl⟩
end Go.Proofs.YtfdppggdgdnnaaaGreatDoor

namespace Go.Proofs.YtfdppggdgdnnaaaGreatDoor
open Go.RowKit Go.Maps Go.ChangeMaps Go.MapKept

theorem zero_file (w : World) : (zeroValue 128).run Tryz.prog w = .ok (.pointer none) w := by kernel_rfl
theorem str_key {k : Dk.Nm} (hk : k.length ≤ 9223372036854775807) : keyOf Tryz.prog 9 (encStr k) = some (.string k) := by
  have := Go.WideMaps.keyOf_string_mk (P := Tryz.prog) Tryz.underlying9 (s := ⟨k.toArray⟩) (by simpa [maxLen, ByteArray.size] using hk)
  simpa using this
/-- m[k] -/
theorem NamesAt.look {w : World} {b n : Nat} {f : Dk.Dir} (h : NamesAt w b n f) (k : Dk.Nm) (hk : k.length ≤ 9223372036854775807) :
    (Instr.lookup 123 (.map (some b)) (encStr k) false).run Tryz.prog w = .ok (fileV (f k)) w := by
  obtain ⟨D, h1, h2⟩ := h.ex
  obtain ⟨v, ps, hrun, hv⟩ := h1.lookup str_law Tryz.underlying123 (zero_file w) ptrE_nil (str_key hk)
  rw [h2] at hv
  rw [hrun, ptrE_inv hv]
/-- m[k] = file i -/
theorem NamesAt.put {w : World} {b n : Nat} {f : Dk.Dir} (h : NamesAt w b n f) (k : Dk.Nm) (i : Nat) (hk : k.length ≤ 9223372036854775807) (hn : n < 9223372036854775807) :
    ∃ w', (Instr.mapUpdate 123 (.map (some b)) (encStr k) (fileV (some i))).run Tryz.prog w = .ok () w' ∧ NamesAt w' b (n + 1) (Dk.upd f k (some i)) ∧ w.grownBy w' (some b) ∧ w'.heap.size = w.heap.size := by
  obtain ⟨D, h1, h2⟩ := h.ex
  obtain ⟨w', hrun, hown, ht⟩ := h1.store str_law Tryz.underlying123 (by simp only [maxLen]; omega) (str_key hk) (ptrE_file i)
  refine ⟨w', hrun, ⟨_, hown, fun x zd => ?_⟩, ht.grown, ?_⟩
  · by_cases e : x = k
    · subst e; rw [atKey_put_same h1.isMap (str_law.key (str_key hk)), Dk.upd_same]; rfl
    · rw [atKey_put_other (by simpa using e), h2, Dk.upd_other _ _ _ _ e]
  · obtain ⟨_, _, _, _, _, rfl⟩ := ht; simp [setBlock]
/-- delete(m, k) -/
theorem NamesAt.del {w : World} {b n : Nat} {f : Dk.Dir} (h : NamesAt w b n f) (k : Dk.Nm) (hk : k.length ≤ 9223372036854775807) (ty : TypeId) :
    ∃ w', (Builtin.delete_ #[123, 9] ty #[.map (some b), encStr k]).run Tryz.prog w = .ok (.tuple #[]) w' ∧ NamesAt w' b n (Dk.upd f k none) ∧ w.grownBy w' (some b) ∧ w'.heap.size = w.heap.size := by
  obtain ⟨D, h1, h2⟩ := h.ex
  obtain ⟨w', hrun, hown, ht⟩ := h1.drop str_law Tryz.underlying123 (str_key hk) ty
  refine ⟨w', hrun, ⟨_, hown, fun x zd => ?_⟩, ht.grown, ?_⟩
  · by_cases e : x = k
    · subst e; rw [atKey_del_same, Dk.upd_same]; rfl
    · rw [atKey_del_other (by simpa using e), h2, Dk.upd_other _ _ _ _ e]
  · obtain ⟨_, _, _, _, _, rfl⟩ := ht; simp [setBlock]
end Go.Proofs.YtfdppggdgdnnaaaGreatDoor
namespace Go.Proofs.YtfdppggdgdnnaaaGreatDoor
open Go.RowKit

theorem str_at (k : Dk.Nm) (i : Nat) (h : i < k.length) (W : World) : (Instr.index 9 (encStr k) (.int .i64 (i : Int))).run Tryz.prog W = .ok (.int .u8 (B (k.getD i 0))) W := by
  have hg : (⟨k.toArray⟩ : ByteArray)[i]? = some k[i] := by
    rw [getElem?_pos (⟨k.toArray⟩ : ByteArray) i (by simpa [ByteArray.size] using h)]
    rfl
  simp [Instr.index, run_underlying Tryz.underlying9, asIntOf, hg, B, List.getD, h]

theorem okByte_iff (c : UInt8) : Dk.okByte c = true ↔ (97 ≤ B c ∧ B c ≤ 122) ∨ (48 ≤ B c ∧ B c ≤ 57) ∨ B c = 46 ∨ B c = 45 ∨ B c = 95 := by
  unfold Dk.okByte B
  simp [UInt8.le_iff_toNat_le, ← UInt8.toNat_inj]
  omega
theorem all_take (k : Dk.Nm) (j : Nat) (hj : j < k.length) (h : (k.take j).all Dk.okByte = true) (hb : Dk.okByte (k.getD j 0) = true) : (k.take (j + 1)).all Dk.okByte = true := by
  rw [List.take_succ_eq_append_getElem hj, List.all_append, h]
  simpa [List.getD, hj] using hb
theorem not_all (k : Dk.Nm) (j : Nat) (hj : j < k.length) (hb : Dk.okByte (k.getD j 0) ≠ true) : Dk.valid k = false := by
  have : k.all Dk.okByte = false := by
    rw [List.all_eq_false]
    exact ⟨k[j], List.getElem_mem _, by simpa [List.getD, hj] using hb⟩
  simp [Dk.valid, this]

set_option maxRecDepth 100000 in
set_option maxHeartbeats 1000000 in
theorem dValid_any (k : Dk.Nm) (hk : k.length ≤ 9223372036854775807) (w : World) :
    Calls Tryz.prog 92 #[encStr k] w fun e w' => e = .returned (.bool (Dk.valid k)) ∧ w' = w := by
  obtain ⟨r, hr⟩ : ∃ r, r = Dk.valid k := ⟨_, rfl⟩
  rw [← hr]
  have HR := hide hr
  clear hr
  have hsz : (⟨k.toArray⟩ : ByteArray).size = k.length := by simp [ByteArray.size]
  by_cases h1 : 1 ≤ k.length
  · by_cases h2 : k.length ≤ 64
    · have d1 : decide ((k.length : Int) < 1) = false := by simp; omega
      have d2 : decide ((64 : Int) < (k.length : Int)) = false := by simp; omega
      have HV : Hid (k.all Dk.okByte = true → r = true) := hide (fun h => by rw [HR.out]; simp [Dk.valid, h, h1, h2])
      have HN : Hid (∀ j, j < k.length → Dk.okByte (k.getD j 0) ≠ true → r = false) := hide (fun j hj hb => by rw [HR.out]; exact not_all k j hj hb)
      clear HR
      go_enter Tryz.func92, Tryz.ntmps92
      go_wp2_with fail
      go_loopw [15] (fun i wr => ∃ j : Nat, j ≤ k.length ∧ i = .int .i64 j ∧ wr = w ∧ (k.take j).all Dk.okByte = true) (fun i _ => k.length - (intOf i).toNat)
      case atStart => exact ⟨0, Nat.zero_le _, rfl, rfl, by simp⟩
      case round =>
        obtain ⟨j, hj, rfl, rfl, hall⟩ := hrel
        have HALL := hide hall
        clear hall
        by_cases hlt : j < k.length
        · have hat := str_at k j hlt wr
          have HT := hide (all_take k j hlt HALL.out)
          have HN2 := hide (HN.out j hlt)
          have hi := okByte_iff (k.getD j 0)
          have hx0 : 0 ≤ B (k.getD j 0) := by unfold B; omega
          generalize k.getD j 0 = c at *
          have HI := hide hi
          clear hi
          generalize hx : B c = x at *
          clear hx HN HALL
          have HY : Hid ((97 ≤ x ∧ x ≤ 122) ∨ (48 ≤ x ∧ x ≤ 57) ∨ x = 46 ∨ x = 45 ∨ x = 95 → ∃ j' : Nat, j' ≤ k.length ∧ ((j' : Int) = (j : Int) + 1) ∧ (k.take j').all Dk.okByte = true) := hide (fun h => ⟨j + 1, by omega, by omega, HT.out (HI.out.2 h)⟩)
          have HZ : Hid (¬ ((97 ≤ x ∧ x ≤ 122) ∨ (48 ≤ x ∧ x ≤ 57) ∨ x = 46 ∨ x = 45 ∨ x = 95) → r = false) := hide (fun h => HN2.out (fun e => h (HI.out.1 e)))
          clear HT HN2 HI
          by_cases a1 : 97 ≤ x
          · by_cases a2 : x ≤ 122
            · go_wp2_with fail
              obtain ⟨j', e1, e2, e3⟩ := HY.out (by omega)
              exact ⟨⟨j', e1, by rw [e2], trivial, e3⟩, by simp [intOf]; omega⟩
            · have a3 : 48 ≤ x := by omega
              have a4 : ¬ x ≤ 57 := by omega
              have a5 : (x == 46) = false := by simp; omega
              have a6 : (x == 45) = false := by simp; omega
              have a7 : (x == 95) = false := by simp; omega
              go_wp2_with fail
              go_ret
              exact ⟨by rw [HZ.out (by omega)]; rfl, rfl⟩
          · by_cases a3 : 48 ≤ x
            · by_cases a4 : x ≤ 57
              · go_wp2_with fail
                obtain ⟨j', e1, e2, e3⟩ := HY.out (by omega)
                exact ⟨⟨j', e1, by rw [e2], trivial, e3⟩, by simp [intOf]; omega⟩
              · have a5 : (x == 46) = false := by simp; omega
                have a6 : (x == 45) = false := by simp; omega
                by_cases a7 : x = 95
                · subst a7
                  go_wp2_with fail
                  obtain ⟨j', e1, e2, e3⟩ := HY.out (by omega)
                  exact ⟨⟨j', e1, by rw [e2], trivial, e3⟩, by simp [intOf]; omega⟩
                · have a8 : (x == 95) = false := by simp; omega
                  go_wp2_with fail
                  go_ret
                  exact ⟨by rw [HZ.out (by omega)]; rfl, rfl⟩
            · have a7 : (x == 95) = false := by simp; omega
              by_cases a5 : x = 46
              · subst a5
                go_wp2_with fail
                obtain ⟨j', e1, e2, e3⟩ := HY.out (by omega)
                exact ⟨⟨j', e1, by rw [e2], trivial, e3⟩, by simp [intOf]; omega⟩
              · have a8 : (x == 46) = false := by simp; omega
                by_cases a6 : x = 45
                · subst a6
                  go_wp2_with fail
                  obtain ⟨j', e1, e2, e3⟩ := HY.out (by omega)
                  exact ⟨⟨j', e1, by rw [e2], trivial, e3⟩, by simp [intOf]; omega⟩
                · have a9 : (x == 45) = false := by simp; omega
                  go_wp2_with fail
                  go_ret
                  exact ⟨by rw [HZ.out (by omega)]; rfl, rfl⟩
        · obtain rfl : j = k.length := by omega
          go_wp2_with fail
          go_ret
          exact ⟨by rw [HV.out (by have := HALL.out; rwa [List.take_length] at this)]; rfl, rfl⟩
    · have e : r = false := by rw [HR.out]; simp [Dk.valid, h2]
      subst e
      have d1 : decide ((k.length : Int) < 1) = false := by simp; omega
      have d2 : decide ((64 : Int) < (k.length : Int)) = true := by simp; omega
      go_enter Tryz.func92, Tryz.ntmps92
      go_wp2_with fail
      go_ret
      exact ⟨rfl, rfl⟩
  · have e : r = false := by rw [HR.out]; simp [Dk.valid, h1]
    subst e
    have d1 : decide ((k.length : Int) < 1) = true := by simp; omega
    go_enter Tryz.func92, Tryz.ntmps92
    go_wp2_with fail
    go_ret
    exact ⟨rfl, rfl⟩
end Go.Proofs.YtfdppggdgdnnaaaGreatDoor

namespace Go.Proofs.YtfdppggdgdnnaaaGreatDoor
open Go.RowKit Go.Maps

theorem DiskL.drewN {w : World} {Bd nb db : Nat} {sv : Value} {ids : List Nat} {row : Nat → Value} {s : Dk.St} {S : Nat → Prop} (h : DiskL w Bd nb db sv ids row s S) (n : Nat) : DiskL (w.drewN n) Bd nb db sv ids row s S := h.kept fun _ _ _ => rfl

set_option maxRecDepth 100000 in
theorem find_any (Bd nb db : Nat) (sv : Value) (ids : List Nat) (row : Nat → Value) (s : Dk.St) (S : Nat → Prop) (p : Nat → Addr) (k : Dk.Nm) (w : World) (hs : SentsD w p) (h : DiskL w Bd nb db sv ids row s S) (hk : k.length ≤ 9223372036854775807) :
    Calls Tryz.prog 86 #[.pointer (some ⟨Bd, 0, none⟩), encStr k] w fun e w' => e = .returned (.tuple #[fileV (s.find k).2, errR p (s.find k).1]) ∧ ∃ q, w' = w.drewN q := by
  have c1 : w.cell? ⟨Bd, 1, none⟩ = some (.map (some nb)) := box_cell h.box 1
  have c7 : w.cell? ⟨Bd, 7, none⟩ = some (.bool s.down) := box_cell h.box 7
  have g9 := hs.c9
  have g6 := hs.c6
  have hl := h.names.look k hk
  obtain ⟨r, hr⟩ : ∃ r, r = s.find k := ⟨_, rfl⟩
  rw [← hr]
  unfold Dk.St.find at hr
  clear h hs
  cases hd : s.down with
  | true =>
    rw [hd] at c7 hr
    simp only [if_true] at hr
    subst hr
    go_enter Tryz.func86, Tryz.ntmps86
    go_wp2_with fail
    go_quiet (fail)
    go_wp2_with fail
    go_returns
    exact ⟨by simp [fileV, errR], nq, rfl⟩
  | false =>
    rw [hd] at c7 hr
    cases hf : s.names k with
    | none =>
      rw [hf] at hl hr
      simp at hr
      subst hr
      have hl2 : (Instr.lookup 123 (.map (some nb)) (encStr k) false).run Tryz.prog w = .ok (.pointer none) w := hl
      clear hl
      go_enter Tryz.func86, Tryz.ntmps86
      go_wp2_with fail
      go_quiet (fail)
      go_wp2_with fail
      go_returns
      exact ⟨by simp [fileV, errR], nq, rfl⟩
    | some i =>
      rw [hf] at hl hr
      simp at hr
      subst hr
      have hl2 : (Instr.lookup 123 (.map (some nb)) (encStr k) false).run Tryz.prog w = .ok (.pointer (some ⟨i, 0, none⟩)) w := hl
      clear hl
      go_enter Tryz.func86, Tryz.ntmps86
      go_wp2_with fail
      go_returns
      exact ⟨by simp [fileV, errR], 0, rfl⟩

theorem neq_nilD (a : Addr) (w : World) : (binOp .neq 35 (errV a) .nilIface).run Tryz.prog w = .ok (.bool true) w := by
  obtain ⟨ms, i, j, h1, h2, h3, h4, h5⟩ := es_facts
  have h : ∀ d : Nat, (Op.equalIn (d + 1) 35 (errV a) .nilIface).run Tryz.prog w = .ok false w := fun d => by simp [Op.equalIn, run_underlying h1, errV]
  simp only [binOp]
  simp [Op.equal, Op.maxDepth, h 9999]

set_option maxRecDepth 100000 in
theorem change_any (Bd nb db : Nat) (sv : Value) (ids : List Nat) (row : Nat → Value) (s : Dk.St) (S : Nat → Prop) (p : Nat → Addr) (k : Dk.Nm) (w : World) (hs : SentsD w p) (h : DiskL w Bd nb db sv ids row s S) (ha : -9223372036854775808 ≤ s.armed ∧ s.armed ≤ 9223372036854775807)
    (hk : k.length ≤ 9223372036854775807) (hsafe : ∀ w', Chg (fun b => b = Bd) w w' → SentsD w' p) (hB : Bd ≠ 6) :
    Calls Tryz.prog 94 #[.pointer (some ⟨Bd, 0, none⟩), encStr k] w fun e w' => e = .returned (.tuple #[fileV (s.begin.find k).2, errR p (s.begin.find k).1]) ∧ DiskL w' Bd nb db sv ids row s.begin S ∧ Chg (fun b => b = Bd) w w' ∧ w'.heap.size = w.heap.size := by
  have HBG := hide (begin_any Bd nb db sv ids row s S p w hs h ha hB)
  have HF := hide (fun w' (hs' : SentsD w' p) (h' : DiskL w' Bd nb db sv ids row s.begin S) => find_any Bd nb db sv ids row s.begin S p k w' hs' h' hk)
  have HSF := hide hsafe
  have hfd : s.begin.down = true → s.begin.find k = (some 9, none) := fun h => by simp [Dk.St.find, h]
  have HFD := hide hfd
  clear hs h hsafe hfd
  generalize s.begin = t at *
  obtain ⟨r, hr⟩ : ∃ r, r = t.find k := ⟨_, rfl⟩
  rw [← hr] at HF HFD ⊢
  clear hr
  cases hd : t.down with
  | true =>
    have HR := hide (HFD.out hd)
    have HDD := hide hd
    have hne := fun w' => neq_nilD (p 9) w'
    unfold errV at hne
    clear HFD hd
    go_enter Tryz.func94, Tryz.ntmps94
    go_wp2_with (first
      | (go_at_call 91; refine HBG.out.mono ?_; rintro e w1 ⟨rfl, hd1, hc1, hz1⟩; have HD1 := hide hd1; have HC1 := hide hc1; clear hd1 hc1; rw [HDD.out]; simp only [if_true, errR, errV])
      | fail)
    go_returns
    refine ⟨?_, HD1.out, HC1.out, hz1⟩
    rw [HR.out]
    simp [fileV, errR, errV]
  | false =>
    have HDD := hide hd
    clear hd
    go_enter Tryz.func94, Tryz.ntmps94
    go_wp2_with (first
      | (go_at_call 91; refine HBG.out.mono ?_; rintro e w1 ⟨rfl, hd1, hc1, hz1⟩; have HD1 := hide hd1; have HC1 := hide hc1; clear hd1 hc1; rw [HDD.out]; simp only [Bool.false_eq_true, if_false, errR])
      | (go_at_call 86; refine (HF.out w1 (HSF.out _ HC1.out) HD1.out).mono ?_; rintro e w2 ⟨rfl, q, rfl⟩)
      | fail)
    go_returns
    exact ⟨rfl, HD1.out.drewN q, ⟨HC1.out.os, HC1.out.tape, HC1.out.output, HC1.out.size, HC1.out.block⟩, hz1⟩
end Go.Proofs.YtfdppggdgdnnaaaGreatDoor

namespace Go.Proofs.YtfdppggdgdnnaaaGreatDoor
open Go.RowKit Go.Maps

theorem Own.take {w : World} {base n len cap : Nat} {A : Option Addr} {l : List UInt8} (h : Own w base (.slice A len cap) l) (hn : n ≤ l.length) : Own w base (.slice A n cap) (l.take n) := by
  obtain ⟨_, h2⟩ := h
  have hlen : (l.take n).length = n := by simp; omega
  refine ⟨by simp [cells_len], ?_⟩
  rcases h2 with ⟨e, h0⟩ | ⟨g, cp, cur, e, hb, hh, hc, hm, hs, ht⟩
  · injection e with e1 e2 e3
    subst e1 e2 e3
    obtain rfl : n = 0 := by omega
    exact .inl ⟨rfl, by simp⟩
  · injection e with e1 e2 e3
    subst e1 e3
    refine .inr ⟨g, cap, cur, by rw [hlen], hb, hh, by omega, hm, hs, ?_⟩
    have h3 : cells (l.take n) = (cells l).take n := by simp [cells, List.map_take]
    rw [h3, ← ht, hlen, List.take_take]
    congr 1
    omega
theorem ownBlock_lt {w : World} {v : Value} {l : List UInt8} (h : Own w 0 v l) {g : Nat} (hg : v.ownBlock = some g) : ∃ cur, w.heap[g]? = some (.cells cur 5 (0, 0)) := by
  rcases h.2 with ⟨e, _⟩ | ⟨g', cap, cur, e, _, hh, _⟩
  · rw [e] at hg; cases hg
  · rw [e] at hg; injection hg with hg; subst hg; exact ⟨cur, hh⟩
theorem rowBlock_at {w : World} {e : TypeId} {n sz : Nat} {v : Value} {xs : List Value} (h : w.ownsRow 0 e sz v n xs) {g : Nat} (hg : v.ownBlock = some g) : ∃ cur, w.heap[g]? = some (.cells cur e (0, 0)) := by
  rcases h.2 with ⟨e, _⟩ | ⟨g', cap, cur, e, _, hh, _⟩
  · rw [e] at hg; cases hg
  · rw [e] at hg; injection hg with hg; subst hg; exact ⟨cur, hh⟩
theorem types_ne {w : World} {i j : Nat} {c c' : Array Value} {t t' : TypeId} (h : w.heap[i]? = some (.cells c t (0, 0))) (h' : w.heap[j]? = some (.cells c' t' (0, 0))) (ht : t ≠ t') : i ≠ j := by
  intro e
  subst e
  rw [h] at h'
  injection h' with h'
  injection h' with _ h' _
  exact ht h'
theorem map_ne {w : World} {i b n : Nat} {c : Array Value} {t : TypeId} {f : Dk.Dir} (h : NamesAt w b n f) (h' : w.heap[i]? = some (.cells c t (0, 0))) : b ≠ i := by
  obtain ⟨D, ⟨es, clock, h1, _⟩, _⟩ := h.ex
  intro e
  subst e
  rw [h1] at h'
  cases h'

theorem DiskL.file_ {w w' : World} {Bd nb db : Nat} {sv : Value} {ids : List Nat} {row : Nat → Value} {s : Dk.St} {S : Nat → Prop} (h : DiskL w Bd nb db sv ids row s S) (i : Nat) (hi : i ∈ ids) (v' : Value) (f' : Dk.File) (hf : FileAt w' i v' f')
    (hk : ∀ k, k < w.heap.size → k ≠ i → some k ≠ (row i).ownBlock → w'.heap[k]? = w.heap[k]?) (hv : ∀ g, v'.ownBlock = some g → (row i).ownBlock = some g ∨ w.heap.size ≤ g) (_hsz : w.heap.size ≤ w'.heap.size) :
    DiskL w' Bd nb db sv ids (fun j => if j = i then v' else row j) (s.setFile i f') (Up S w w') := by
  have lt : ∀ {k : Nat} {o : Obj}, w.heap[k]? = some o → k < w.heap.size := fun h => (Array.getElem?_eq_some_iff.1 h).1
  have lt' : ∀ {k : Nat} {o : Obj}, w'.heap[k]? = some o → k < w'.heap.size := fun h => (Array.getElem?_eq_some_iff.1 h).1
  have hfi := h.file i hi
  have key : ∀ k o, w.heap[k]? = some o → k ≠ i → (∀ g, (row i).ownBlock = some g → k ≠ g) → w'.heap[k]? = w.heap[k]? := fun k o hk1 h1 h2 => hk k (lt hk1) h1 fun e => h2 k e.symm rfl
  have nrow : ∀ {k : Nat} {c : Array Value} {t : TypeId}, w.heap[k]? = some (.cells c t (0, 0)) → t ≠ 5 → ∀ g, (row i).ownBlock = some g → k ≠ g := fun h1 ht g hg => by
    obtain ⟨cur, h2⟩ := ownBlock_lt hfi.row hg
    exact types_ne h1 h2 ht
  have kcell : ∀ {k : Nat} {c : Array Value} {t : TypeId}, w.heap[k]? = some (.cells c t (0, 0)) → t ≠ 5 → t ≠ 132 → w'.heap[k]? = w.heap[k]? := fun h1 h2 h3 => key _ _ h1 (types_ne h1 hfi.box h3) (nrow h1 h2)
  have kmap : ∀ {b n : Nat} {f : Dk.Dir}, NamesAt w b n f → NamesAt w' b n f := fun h1 => by
    refine h1.same ?_
    refine hk _ h1.lt (map_ne h1 hfi.box) fun e => ?_
    obtain ⟨cur, h2⟩ := ownBlock_lt hfi.row e.symm
    exact map_ne h1 h2 rfl
  obtain ⟨m, hd, hm⟩ := h.dur
  have kfile : ∀ j ∈ ids, j ≠ i → FileAt w' j (row j) (s.files j) := fun j hj hji => by
    have hfj := h.file j hj
    refine hfj.same (key _ _ hfj.box hji (nrow hfj.box (by decide))) fun g hg => ?_
    obtain ⟨cur, h2⟩ := ownBlock_lt hfj.row hg
    exact key _ _ h2 (types_ne h2 hfi.box (by decide)) fun g' hg' e => by subst e; exact h.apart i hi j hj (Ne.symm hji) g hg' hg
  refine { box := (kcell h.box (by decide) (by decide)).trans h.box, names := kmap h.names, dur := ⟨m, kmap hd, hm⟩, ne := h.ne, since := ownsRow_same h.since fun g hg => ?_, nodup := h.nodup, file := fun j hj => ?_, apart := fun a ha b hb hab g hg => ?_, nref := h.nref, dref := h.dref, sref := h.sref, calls := h.calls, mBd := .inl h.mBd, mnb := .inl h.mnb, mdb := .inl h.mdb, msv := fun g hg => .inl (h.msv g hg), mid := fun j hj => .inl (h.mid j hj), mrow := fun j hj g hg => ?_ }
  · obtain ⟨cur, h2⟩ := rowBlock_at h.since hg
    exact kcell h2 (by decide) (by decide)
  · by_cases e : j = i
    · subst e; simp only [if_true, Dk.setFile_same]; exact hf
    · simp only [if_neg e, Dk.setFile_other _ _ _ _ e]; exact kfile j hj e
  · have hlow : ∀ c ∈ ids, c ≠ i → ∀ g, (row c).ownBlock = some g → g < w.heap.size := fun c hc _ g hg => ((h.file c hc).row.lt g hg).2
    by_cases ea : a = i
    · subst ea
      simp only [if_true] at hg
      have eb : b ≠ a := Ne.symm hab
      simp only [if_neg eb]
      intro hg2
      rcases hv g hg with h1 | h1
      · exact h.apart a hi b hb hab g h1 hg2
      · have := hlow b hb eb g hg2; omega
    · simp only [if_neg ea] at hg
      by_cases eb : b = i
      · subst eb
        simp only [if_true]
        intro hg2
        rcases hv g hg2 with h1 | h1
        · exact h.apart a ha b hi hab g hg h1
        · have := hlow a ha ea g hg; omega
      · simp only [if_neg eb]
        exact h.apart a ha b hb hab g hg
  · by_cases e : j = i
    · subst e
      simp only [if_true] at hg
      rcases hv g hg with h1 | h1
      · exact .inl (h.mrow j hj g h1)
      · obtain ⟨cur, h2⟩ := ownBlock_lt hf.row hg
        exact .inr ⟨h1, lt' h2⟩
    · simp only [if_neg e] at hg
      exact .inl (h.mrow j hj g hg)
theorem up_same {S : Nat → Prop} {w w' : World} (h : w'.heap.size = w.heap.size) : ∀ k, Up S w w' k → S k := fun k hk => by
  rcases hk with hk | hk
  · exact hk
  · omega

set_option maxRecDepth 100000 in
theorem keep_any (i : Nat) (v : Value) (f : Dk.File) (n : Nat) (w : World) (h : FileAt w i v f) (hn : n ≤ f.bytes.length) :
    Calls Tryz.prog 85 #[.pointer (some ⟨i, 0, none⟩), .int .i64 (n : Int)] w fun e w' => e = .returned (.tuple #[]) ∧ ∃ v', FileAt w' i v' (f.keep n) ∧ (∀ g, v'.ownBlock = some g → v.ownBlock = some g) ∧ Chg (fun k => k = i) w w' ∧ w'.heap.size = w.heap.size := by
  obtain ⟨A, c, rfl, ha⟩ := h.row.arg
  have c1 : w.cell? ⟨i, 1, none⟩ = some (.slice A f.bytes.length c) := box_cell h.box 1
  have c2 : w.cell? ⟨i, 2, none⟩ = some (.int .i64 (f.synced : Int)) := box_cell h.box 2
  have f1 := box_free h.box 1
  have f2 := box_free h.box 2
  have hle := ha.le
  have hmx := ha.max
  have hA := ha.nil
  have HH := hide h
  clear h ha
  generalize hfl : f.bytes.length = L at *
  go_enter Tryz.func85, Tryz.ntmps85
  go_wp2_with fail
  go_end0
  have hrow := HH.out.row
  have hb1 := heap_setCell_same w i 1 _ _ (.slice A n c) HH.out.box
  have hb2 := heap_setCell_same _ i 2 _ _ (.int .i64 (n : Int)) hb1
  refine ⟨rfl, .slice A n c, ⟨by rw [hb2]; rfl, ?_, by simp [Dk.File.keep]; omega⟩, fun g hg => (by cases A with | none => cases hg | some a => exact hg), (Chg.setCell (S := fun k => k = i) w i 1 _ rfl).then (Chg.setCell (S := fun k => k = i) _ i 2 _ rfl), by simp⟩
  refine ownsRow_same (hrow.take (by rw [hfl]; exact hn)) fun g hg => ?_
  have hg2 : (Value.slice A L c).ownBlock = some g := by cases A with | none => cases hg | some a => exact hg
  obtain ⟨cur, h2⟩ := ownBlock_lt hrow hg2
  have hne : g ≠ i := types_ne h2 HH.out.box (by decide)
  rw [Below.heap_setCell _ _ _ _ (by exact hne), Below.heap_setCell _ _ _ _ (by exact hne)]
end Go.Proofs.YtfdppggdgdnnaaaGreatDoor

namespace Go.Proofs.YtfdppggdgdnnaaaGreatDoor
open Go.RowKit Go.Maps

/-- None of S's blocks is an error's. -/
structure Safe (S : Nat → Prop) (p : Nat → Addr) : Prop where
  g : ∀ j, 4 ≤ j → j ≤ 9 → ¬ S (gs.getD j 0)
  b : ∀ j, 4 ≤ j → j ≤ 9 → ¬ S (p j).block
theorem SentsOn.chg {S : Nat → Prop} {w w' : World} {p : Nat → Addr} (h : SentsD w p) (hS : Safe S p) (hc : Chg S w w') : SentsD w' p :=
  ⟨fun j hj => hc.cell (h.cell j hj) (hS.g j hj.1 hj.2), fun j hj => by
    obtain ⟨h1, c, t, h2⟩ := h.blk j hj
    exact ⟨Nat.lt_of_lt_of_le h1 hc.size, c, t, (hc.block _ h1 (hS.b j hj.1 hj.2)).trans h2⟩, h.ne⟩
/-- What a call leaves. -/
structure Next (w : World) (Bd : Nat) (S : Nat → Prop) (s' : Dk.St) (w' : World) : Prop where
  disk : IsDisk w' Bd s' (Up S w w')
  chg : Chg S w w'
/-- Numbers that stay within 64 bits. -/
structure Dk.Fit (s : Dk.St) : Prop where
  armed : -9223372036854775808 ≤ s.armed ∧ s.armed ≤ 9223372036854775807
  calls : 0 ≤ s.calls ∧ s.calls ≤ 1099511627776
  used : -1125899906842624 ≤ s.used ∧ s.used ≤ 1125899906842624
  room : 0 ≤ s.room ∧ s.room ≤ 1125899906842624
  file : ∀ i, (s.files i).bytes.length ≤ 1000000000
theorem Dk.Fit.begin {s : Dk.St} (h : Dk.Fit s) : Dk.Fit s.begin := by
  unfold Dk.St.begin
  split
  · exact ⟨by have := h.armed; show _ ≤ s.armed - 1 ∧ s.armed - 1 ≤ _; omega, h.calls, h.used, h.room, h.file⟩
  · exact h
theorem find_cases (t : Dk.St) (k : Dk.Nm) : (∃ j, t.find k = (some j, none)) ∨ ∃ i, t.find k = (none, some i) ∧ t.names k = some i := by
  unfold Dk.St.find
  split
  · exact .inl ⟨9, rfl⟩
  · cases h : t.names k with
    | none => exact .inl ⟨6, rfl⟩
    | some i => exact .inr ⟨i, rfl, rfl⟩

set_option maxRecDepth 100000 in
theorem sync_any (Bd : Nat) (s : Dk.St) (S : Nat → Prop) (p : Nat → Addr) (k : Dk.Nm) (w : World) (hs : SentsD w p) (hS : Safe S p) (h : IsDisk w Bd s S) (hft : Dk.Fit s) (hk : k.length ≤ 9223372036854775807) :
    Calls Tryz.prog 77 #[.pointer (some ⟨Bd, 0, none⟩), encStr k] w fun e w' => e = .returned (errR p (s.sync k).1) ∧ Next w Bd S (s.sync k).2 w' := by
  obtain ⟨nb, db, sv, ids, row, h⟩ := h
  have hBS : ∀ b, b = Bd → S b := fun b e => e ▸ h.mBd
  have HCH := hide (change_any Bd nb db sv ids row s S p k w hs h hft.armed hk (fun w' hc => hs.chg hS (hc.mono hBS)) (fun e => hS.g 9 (by omega) (by omega) (show S 6 from e ▸ h.mBd)))
  have hft' := hft.begin
  obtain ⟨r, hr⟩ : ∃ r, r = s.sync k := ⟨_, rfl⟩
  rw [← hr]
  unfold Dk.St.sync at hr
  have HBS := hide hBS
  clear hs h hft hBS
  generalize s.begin = t at *
  rcases find_cases t k with ⟨j, hf⟩ | ⟨i, hf, hnm⟩
  · rw [hf] at hr HCH
    simp only at hr HCH
    subst hr
    have hne := fun w' => neq_nilD (p j) w'
    unfold errV at hne
    have HFT := hide hft'
    clear hft'
    go_enter Tryz.func77, Tryz.ntmps77
    go_wp2_with (first
      | (go_at_call 94; refine HCH.out.mono ?_; rintro e w1 ⟨rfl, hd1, hc1, hz1⟩; have HD1 := hide hd1; have HC1 := hide hc1; clear hd1 hc1; simp only [errR, errV, fileV])
      | fail)
    go_ret
    exact ⟨rfl, ⟨_, _, _, _, _, HD1.out.mono up_self⟩, HC1.out.mono HBS.out⟩
  · rw [hf] at hr HCH
    simp only at hr HCH
    subst hr
    have HFT := hide hft'
    have HNM := hide hnm
    clear hft' hnm hf
    go_enter Tryz.func77, Tryz.ntmps77
    go_wp2_with (first
      | (go_at_call 94; refine HCH.out.mono ?_; rintro e w1 ⟨rfl, hd1, hc1, hz1⟩; have HD1 := hide hd1; have HC1 := hide hc1; obtain ⟨hi, -, -⟩ := hd1.nref k i HNM.out; have hfi := hd1.file i hi; have HFI := hide hfi; obtain ⟨A, c, hrv, -⟩ := hfi.row.arg; have hc1' : w1.cell? ⟨i, 1, none⟩ = some (row i) := box_cell hfi.box 1; rw [hrv] at hc1'; have HKP := hide (keep_any i (row i) (t.files i) (t.files i).bytes.length w1 hfi (Nat.le_refl _)); have HI := hide hi; clear hd1 hc1 hfi hrv hi; simp only [errR, fileV])
      | (go_at_call 85; refine HKP.out.mono ?_; rintro e w2 ⟨rfl, v', hf2, hv2, hc2, hz2⟩; have HD2 := hide (HD1.out.file_ i HI.out v' _ hf2 (fun b hb hbi _ => hc2.block b hb hbi) (fun g hg => .inl (hv2 g hg)) (by omega)); have c5 : w2.cell? ⟨Bd, 5, none⟩ = some (.int .i64 t.calls) := box_cell HD2.out.box 5; have f5 := box_free HD2.out.box 5; have HC2 := hide hc2; have HZ := hide hz2; have hw5 : IntKind.i64.wrap (t.calls + 1) = t.calls + 1 := IntWalk.i64_in _ (by have := HFT.out.calls; omega); clear hf2 hv2 hc2 hz2)
      | fail)
    go_ret
    refine ⟨rfl, ⟨_, _, _, _, _, (HD2.out.set 5 (.int .i64 (t.calls + 1)) { t.setFile i ((t.files i).keep (t.files i).bytes.length) with calls := t.calls + 1 } rfl rfl rfl rfl rfl (by show t.calls ≤ t.calls + 1; omega)).mono fun b hb => .inl (up_same HZ.out b hb)⟩, ?_⟩
    exact ((HC1.out.mono HBS.out).then (HC2.out.mono fun b e => e ▸ HD1.out.mid i HI.out)).then (Chg.setCell _ _ _ _ HD1.out.mBd)

def LenIs (b : List UInt8) (n : Nat) : Prop := b.length = n
theorem LenIs.out {b : List UInt8} {n : Nat} (h : LenIs b n) : b.length = n := h
theorem Arg.chg {S : Nat → Prop} {w w' : World} {A : Option Addr} {c : Nat} {l : List UInt8} (h : Arg w A c l) (hc : Chg S w w') (hA : ∀ b o, A = some ⟨b, o, none⟩ → l ≠ [] → ¬ S b) : Arg w' A c l := by
  refine ⟨h.le, h.max, h.nil, ?_⟩
  rcases h.reads with e | ⟨b, off, e, hb, hr⟩
  · exact .inl e
  · by_cases hl : l = []
    · exact .inl hl
    · exact .inr ⟨b, off, e, Nat.lt_of_lt_of_le hb hc.size, fun k hk => hc.cell (hr k hk) (hA b off e hl)⟩

set_option maxRecDepth 100000 in
set_option maxHeartbeats 1000000 in
theorem append_any (Bd : Nat) (s : Dk.St) (S : Nat → Prop) (p : Nat → Addr) (k : Dk.Nm) (A : Option Addr) (cb nb_ : Nat) (b : List UInt8) (w : World) (hs : SentsD w p) (hS : Safe S p) (h : IsDisk w Bd s S) (hft : Dk.Fit s) (hk : k.length ≤ 9223372036854775807)
    (hb : Arg w A cb b) (hn : b.length = nb_) (hbl : nb_ ≤ 1000000) (hbS : ∀ x o, A = some ⟨x, o, none⟩ → b ≠ [] → ¬ S x) :
    Calls Tryz.prog 44 #[.pointer (some ⟨Bd, 0, none⟩), encStr k, .slice A nb_ cb] w fun e w' => e = .returned (errR p (s.append k b).1) ∧ Next w Bd S (s.append k b).2 w' := by
  obtain ⟨nb, db, sv, ids, row, h⟩ := h
  have hBS : ∀ b, b = Bd → S b := fun b e => e ▸ h.mBd
  have HCH := hide (change_any Bd nb db sv ids row s S p k w hs h hft.armed hk (fun w' hc => hs.chg hS (hc.mono hBS)) (fun e => hS.g 9 (by omega) (by omega) (show S 6 from e ▸ h.mBd)))
  have hft' := hft.begin
  obtain ⟨r, hr⟩ : ∃ r, r = s.append k b := ⟨_, rfl⟩
  rw [← hr]
  unfold Dk.St.append at hr
  have HBS := hide hBS
  have HSE := hide hs
  have HB := hide hb
  have HN := hide hn
  have HNL : LenIs b nb_ := hn
  have HBX := hide hbS
  clear hs h hft hBS hb hn hbS
  generalize s.begin = t at *
  rcases find_cases t k with ⟨j, hf⟩ | ⟨i, hf, hnm⟩
  · rw [hf] at hr HCH
    simp only at hr HCH
    subst hr
    have hne := fun w' => neq_nilD (p j) w'
    unfold errV at hne
    have HFT := hide hft'
    clear hft'
    go_enter Tryz.func44, Tryz.ntmps44
    go_wp2_with (first
      | (go_at_call 94; refine HCH.out.mono ?_; rintro e w1 ⟨rfl, hd1, hc1, hz1⟩; have HD1 := hide hd1; have HC1 := hide hc1; clear hd1 hc1; simp only [errR, errV, fileV])
      | fail)
    go_ret
    exact ⟨rfl, ⟨_, _, _, _, _, HD1.out.mono up_self⟩, HC1.out.mono HBS.out⟩
  · rw [hf] at hr HCH
    simp only at hr HCH
    have HFT := hide hft'
    have HNM := hide hnm
    have hu := hft'.used
    have hro := hft'.room
    have hw1 : IntKind.i64.wrap (t.room - t.used) = t.room - t.used := IntWalk.i64_in _ (by omega)
    have hw2 : IntKind.i64.wrap (t.calls + 1) = t.calls + 1 := IntWalk.i64_in _ (by have := HFT.out.calls; omega)
    have hw3 : IntKind.i64.wrap (t.used + (nb_ : Int)) = t.used + (nb_ : Int) := IntWalk.i64_in _ (by omega)
    clear hft' hnm hf
    by_cases hfull : t.room - t.used < (nb_ : Int)
    · rw [if_pos (by rw [HN.out]; exact hfull)] at hr
      subst hr
      have d1 : decide (t.room - t.used < (nb_ : Int)) = true := by simp [hfull]
      go_enter Tryz.func44, Tryz.ntmps44
      go_wp2_with (first
        | (go_at_call 94; refine HCH.out.mono ?_; rintro e w1 ⟨rfl, hd1, hc1, hz1⟩; have HD1 := hide hd1; have HC1 := hide hc1; have e0 : w1.cell? ⟨Bd, 0, none⟩ = some (.int .i64 t.room) := box_cell hd1.box 0; have e4 : w1.cell? ⟨Bd, 4, none⟩ = some (.int .i64 t.used) := box_cell hd1.box 4; have g8 := (HSE.out.chg hS (hc1.mono HBS.out)).c8; clear hd1 hc1; simp only [errR, fileV])
        | fail)
      go_quiet (fail)
      go_wp2_with fail
      go_ret
      exact ⟨rfl, ⟨_, _, _, _, _, (HD1.out.drewN nq).mono up_self⟩, HC1.out.mono HBS.out |>.then ⟨rfl, rfl, rfl, Nat.le_refl _, fun _ _ _ => rfl⟩⟩
    · rw [if_neg (by rw [HN.out]; exact hfull)] at hr
      subst hr
      have d1 : decide (t.room - t.used < (nb_ : Int)) = false := by simp; omega
      go_enter Tryz.func44, Tryz.ntmps44
      go_wp2_with (first
        | (go_at_call 94; refine HCH.out.mono ?_; rintro e w1 ⟨rfl, hd1, hc1, hz1⟩; have HD1 := hide hd1; have HC1 := hide hc1; have e0 : w1.cell? ⟨Bd, 0, none⟩ = some (.int .i64 t.room) := box_cell hd1.box 0; have e4 : w1.cell? ⟨Bd, 4, none⟩ = some (.int .i64 t.used) := box_cell hd1.box 4; clear hd1 hc1; simp only [errR, fileV])
        | fail)
      go_quiet (fail)
      obtain ⟨hi, -, -⟩ := HD1.out.nref k i HNM.out
      have hfi := HD1.out.file i hi
      have HFI := hide hfi
      have HI := hide hi
      obtain ⟨A1, c1, hrv, -⟩ := hfi.row.arg
      have hc1' : w1.cell? ⟨i, 1, none⟩ = some (row i) := box_cell hfi.box 1
      rw [hrv] at hc1'
      have HRV := hide hrv
      have HBA := hide (HB.out.chg (HC1.out.mono HBS.out) HBX.out)
      have hcq : (w1.drewN nq).cell? ⟨i, 1, none⟩ = some (.slice A1 (t.files i).bytes.length c1) := hc1'
      have hrow := hfi.row
      rw [hrv] at hrow
      have HRO : Hid (Own (w1.drewN nq) 0 (.slice A1 (t.files i).bytes.length c1) (t.files i).bytes) := hide hrow
      have HRD : Hid (Reads (w1.drewN nq) A b) := hide HBA.out.reads
      have HDQ := hide (HD1.out.drewN nq)
      have HFQ : Hid (FileAt (w1.drewN nq) i (row i) (t.files i)) := hide (hfi.same rfl fun _ _ => rfl)
      have HCQ : Hid (Chg (fun b => b = Bd) w (w1.drewN nq)) := hide ⟨HC1.out.os, HC1.out.tape, HC1.out.output, HC1.out.size, HC1.out.block⟩
      have HZQ : Hid ((w1.drewN nq).heap.size = w.heap.size) := hide hz1
      clear hfi hi hrv hc1' hrow e0 e4 HD1 HC1 hz1 HFI HBA
      generalize w1.drewN nq = wq at *
      have hci : wq.cell? ⟨i, 1, none⟩ = some (.slice A1 (t.files i).bytes.length c1) := hcq
      have hnb : some i ≠ (Value.slice A1 (t.files i).bytes.length c1).ownBlock := fun e => by
        obtain ⟨cur, h2⟩ := ownBlock_lt HRO.out e.symm
        exact types_ne HFQ.out.box h2 (by decide) rfl
      have HNB := hide hnb
      have hfi := box_free HFQ.out.box 1
      have hnd : some Bd ≠ (Value.slice A1 (t.files i).bytes.length c1).ownBlock := fun e => by
        obtain ⟨cur, h2⟩ := ownBlock_lt HRO.out e.symm
        exact types_ne HDQ.out.box h2 (by decide) rfl
      have HND := hide hnd
      have y4 : wq.cell? ⟨Bd, 4, none⟩ = some (.int .i64 t.used) := box_cell HDQ.out.box 4
      have y5 : wq.cell? ⟨Bd, 5, none⟩ = some (.int .i64 t.calls) := box_cell HDQ.out.box 5
      have z4 := box_free HDQ.out.box 4
      have z5 := box_free HDQ.out.box 5
      have hlb : Bd < wq.heap.size := World.block_lt_of_cell? wq _ y4
      have hli : i < wq.heap.size := World.block_lt_of_cell? wq _ hci
      clear hcq hnb hnd
      go_wp2_with (first
        | (at_builtin; refine wpList_app rfl (.tmp 35) (.tmp 36) rfl 0 (.slice A1 (t.files i).bytes.length c1) (t.files i).bytes b rfl HRO.out A nb_ cb rfl HN.out HRD.out (by have := HFT.out.file i; omega) (Nat.zero_le _) ?_; intro v' w2 hown2 hg2 hv2; have HOW := hide hown2; have HG2 := hide hg2; have HV2 := hide hv2; obtain ⟨A', c', rfl, -⟩ := hown2.arg; rw [List.length_append, HN.out] at *; have hci2 := hg2.cell hci HNB.out; have hfi2 : w2.frozen? ⟨i, 1, none⟩ = false := (World.frozen?_of_block (hg2.block i hli HNB.out)).trans hfi; have e4 := hg2.cell y4 HND.out; have e5 := hg2.cell y5 HND.out; have x4 : w2.frozen? ⟨Bd, 4, none⟩ = false := (World.frozen?_of_block (hg2.block Bd hlb HND.out)).trans z4; have x5 : w2.frozen? ⟨Bd, 5, none⟩ = false := (World.frozen?_of_block (hg2.block Bd hlb HND.out)).trans z5; clear hown2 hg2 hv2 hci hfi y4 y5 z4 z5)
        | fail)
      go_ret
      have hbx2 : w2.heap[i]? = some (.cells #[.int .i64 (t.files i).born, row i, .int .i64 ((t.files i).synced : Int)] 132 (0, 0)) := (HG2.out.block i hli HNB.out).trans HFQ.out.box
      have hbx3 := heap_setCell_same w2 i 1 _ _ (.slice A' ((t.files i).bytes.length + nb_) c') hbx2
      have hw3 : FileAt (w2.setCell ⟨i, 1, none⟩ (.slice A' ((t.files i).bytes.length + nb_) c')) i (.slice A' ((t.files i).bytes.length + nb_) c') { t.files i with bytes := (t.files i).bytes ++ b } := by
        refine ⟨hbx3, ownsRow_same HOW.out fun g hg => ?_, by have := HFQ.out.sync; simp; omega⟩
        obtain ⟨cur, h2⟩ := ownBlock_lt HOW.out hg
        exact Below.heap_setCell _ _ _ _ (types_ne h2 hbx2 (by decide))
      have hd3 := HDQ.out.file_ i HI.out _ _ hw3 (fun x hx hxi hxr => by
        rw [Below.heap_setCell _ _ _ _ (by exact hxi)]
        exact HG2.out.block x hx (by rw [HRV.out] at hxr; exact hxr)) (fun g hg => by
        rcases HV2.out with e | e
        · rw [e] at hg; exact .inl (by rw [HRV.out]; exact hg)
        · rw [e] at hg; injection hg with hg; exact .inr (by omega)) (by rw [World.size_setCell]; exact HG2.out.size)
      have hc3 : Chg S wq (w2.setCell ⟨i, 1, none⟩ (.slice A' ((t.files i).bytes.length + nb_) c')) := (Chg.of_grown HG2.out fun g hg => HDQ.out.mrow i HI.out g (by rw [HRV.out]; exact hg)).then (Chg.setCell _ _ _ _ (HDQ.out.mid i HI.out))
      generalize w2.setCell ⟨i, 1, none⟩ (.slice A' ((t.files i).bytes.length + nb_) c') = w3 at *
      have hd4 := (hd3.set 4 (.int .i64 (t.used + nb_)) { t.setFile i { t.files i with bytes := (t.files i).bytes ++ b } with used := t.used + nb_ } rfl rfl rfl rfl rfl (Int.le_refl _)).set 5 (.int .i64 (t.calls + 1)) { t.setFile i { t.files i with bytes := (t.files i).bytes ++ b } with used := t.used + nb_, calls := t.calls + 1 } rfl rfl rfl rfl rfl (by show t.calls ≤ t.calls + 1; omega)
      have hup : ∀ x, Up S wq w3 x → Up S w ((w3.setCell ⟨Bd, 4, none⟩ (.int .i64 (t.used + nb_))).setCell ⟨Bd, 5, none⟩ (.int .i64 (t.calls + 1))) x := fun x hx => by
        rcases hx with hx | hx
        · exact .inl hx
        · refine .inr ?_
          have := HZQ.out
          simp only [World.size_setCell]
          omega
      rw [HNL.out]
      exact ⟨rfl, ⟨_, _, _, _, _, hd4.mono hup⟩, ((((HCQ.out.mono HBS.out).then hc3).then (Chg.setCell _ _ _ _ HDQ.out.mBd)).then (Chg.setCell _ _ _ _ HDQ.out.mBd))⟩
end Go.Proofs.YtfdppggdgdnnaaaGreatDoor

namespace Go.Proofs.YtfdppggdgdnnaaaGreatDoor
open Go.RowKit Go.Maps

theorem Chg.then' {S : Nat → Prop} {a b c : World} (h : Chg S a b) (k : Chg S b c) : Chg S a c := h.then k
section
variable {w : World} {ops : Array Oper} {rest : List Oper} {o : Oper} {a : Act} {Q : Exit → Act → World → Prop}
theorem step_del (hg : o.guard = none) (m x : Operand) (hop : o.op = Op.call { callee := Callee.builtin Builtin.delete, args := #[m, x], argTypes := #[123, 9] }) (b n : Nat) (f : Dk.Dir) (hm : a.eval m = .map (some b)) (h : NamesAt w b n f) (k : Dk.Nm) (hk : k.length ≤ 9223372036854775807) (hx : a.eval x = encStr k)
    (hK : ∀ w', NamesAt w' b n (Dk.upd f k none) → w.grownBy w' (some b) → w'.heap.size = w.heap.size → wpList Tryz.prog ops Q rest (a.put o.dst (.tuple #[])) w') : wpList Tryz.prog ops Q (o :: rest) a w := by
  refine wpList_plain hg fun K' hK' => ?_
  obtain ⟨w', hrun, r1, r2, r3⟩ := h.del k hk o.type
  unfold Oper.wp
  simp [execOp, hop, resolve, invoke, builtin, hm, hx, hrun, Result.andThen]
  exact hK' _ _ (hK w' r1 r2 r3)
theorem step_put (hg : o.guard = none) (m x v : Operand) (hop : o.op = Op.mapUpdate 123 m x v) (b n : Nat) (f : Dk.Dir) (hm : a.eval m = .map (some b)) (h : NamesAt w b n f) (k : Dk.Nm) (hk : k.length ≤ 9223372036854775807) (hx : a.eval x = encStr k) (i : Nat) (hv : a.eval v = fileV (some i)) (hn : n < 9223372036854775807)
    (hK : ∀ w', NamesAt w' b (n + 1) (Dk.upd f k (some i)) → w.grownBy w' (some b) → w'.heap.size = w.heap.size → wpList Tryz.prog ops Q rest (a.put o.dst undef) w') : wpList Tryz.prog ops Q (o :: rest) a w := by
  refine wpList_plain hg fun K' hK' => ?_
  obtain ⟨w', hrun, r1, r2, r3⟩ := h.put k i hk hn
  unfold Oper.wp
  simp [execOp, hop, hm, hx, hv, hrun, Result.andThen]
  exact hK' _ _ (hK w' r1 r2 r3)
end
theorem made3D (w : World) (v0 v1 v2 : Value) (t : TypeId) : (w.alloc (.cells #[v0, v1, v2] t)).cell? ⟨w.heap.size, 0, none⟩ = some v0 ∧ (w.alloc (.cells #[v0, v1, v2] t)).cell? ⟨w.heap.size, 1, none⟩ = some v1 ∧ (w.alloc (.cells #[v0, v1, v2] t)).cell? ⟨w.heap.size, 2, none⟩ = some v2 :=
  ⟨by rw [World.cell?_alloc_mark]; rfl, by rw [World.cell?_alloc_mark]; rfl, by rw [World.cell?_alloc_mark]; rfl⟩
abbrev mvV (m : Dk.Mv) : Value := .agg #[encStr m.frm, encStr m.to, fileV m.file]

set_option maxRecDepth 100000 in
theorem mvIn_any (m : Dk.Mv) (b n : Nat) (f : Dk.Dir) (w : World) (h : NamesAt w b n f) (hn : n < 1000000000000000) (h1 : m.frm.length ≤ 64) (h2 : m.to.length ≤ 64) (h3 : m.to ≠ [] → m.file ≠ none) :
    Calls Tryz.prog 112 #[mvV m, .map (some b)] w fun e w' => e = .returned (.tuple #[]) ∧ NamesAt w' b (n + 1) (m.on f) ∧ Chg (fun k => k = b) w w' := by
  obtain ⟨frm, to, file⟩ := m
  simp only at h1 h2 h3
  obtain ⟨m0, m1, m2⟩ := made3D w (encStr frm) (encStr to) (fileV file) 142
  obtain ⟨W, hW⟩ : ∃ W, W = w.alloc (.cells #[encStr frm, encStr to, fileV file] 142) := ⟨_, rfl⟩
  rw [← hW] at m0 m1 m2
  have hwb : Below w.heap.size w W := by rw [hW]; exact balloc (Below.refl _ _) _
  have HN := hide (h.same (hwb.block b h.lt))
  have HB := hide hwb
  have HNB : Hid (some w.heap.size ≠ some b) := hide (fun e => by injection e with e; have := h.lt; omega)
  have k1 : frm.length ≤ 9223372036854775807 := by omega
  have k2 : to.length ≤ 9223372036854775807 := by omega
  have HW := hide hW
  clear h hwb hW
  obtain ⟨g, hg⟩ : ∃ g, g = Dk.Mv.on ⟨frm, to, file⟩ f := ⟨_, rfl⟩
  rw [← hg]
  unfold Dk.Mv.on at hg
  simp only at hg
  by_cases hf : frm = []
  · subst hf
    by_cases ht : to = []
    · subst ht
      simp only [if_true] at hg
      subst hg
      go_enter Tryz.func112, Tryz.ntmps112
      go_upto_region 1 with fail
      rw [← HW.out]
      go_wp2_with fail
      go_end0
      exact ⟨rfl, HN.out.mono (by omega), Chg.of_below HB.out⟩
    · simp only [if_true, if_neg ht] at hg
      subst hg
      have he2 : List.isEmpty to = false := by cases to with | nil => exact absurd rfl ht | cons _ _ => rfl
      obtain ⟨i, rfl⟩ := Option.ne_none_iff_exists'.1 (h3 ht)
      go_enter Tryz.func112, Tryz.ntmps112
      go_upto_region 1 with fail
      rw [← HW.out]
      go_wp2_with (first
        | (at_mapUpdate; refine step_put rfl (.tmp 13) (.tmp 15) (.tmp 17) rfl b n f rfl HN.out to k2 rfl i rfl (by omega) ?_; intro w2 hn2 hg2 hz2)
        | fail)
      go_end0
      exact ⟨rfl, hn2, (Chg.of_below HB.out).then' (Chg.of_grown hg2 fun x e => by injection e with e; exact e.symm)⟩
  · have he1 : List.isEmpty frm = false := by cases frm with | nil => exact absurd rfl hf | cons _ _ => rfl
    by_cases ht : to = []
    · subst ht
      simp only [if_true, if_neg hf] at hg
      subst hg
      go_enter Tryz.func112, Tryz.ntmps112
      go_upto_region 1 with fail
      rw [← HW.out]
      go_wp2_with (first
        | (at_delete; refine step_del rfl (.tmp 7) (.tmp 9) rfl b n f rfl HN.out frm k1 rfl ?_; intro w2 hn2 hg2 hz2; have y1 := hg2.cell m1 HNB.out)
        | fail)
      go_end0
      exact ⟨rfl, hn2.mono (by omega), (Chg.of_below HB.out).then' (Chg.of_grown hg2 fun x e => by injection e with e; exact e.symm)⟩
    · simp only [if_neg ht, if_neg hf] at hg
      subst hg
      have he2 : List.isEmpty to = false := by cases to with | nil => exact absurd rfl ht | cons _ _ => rfl
      obtain ⟨i, rfl⟩ := Option.ne_none_iff_exists'.1 (h3 ht)
      go_enter Tryz.func112, Tryz.ntmps112
      go_upto_region 1 with fail
      rw [← HW.out]
      go_wp2_with (first
        | (at_delete; refine step_del rfl (.tmp 7) (.tmp 9) rfl b n f rfl HN.out frm k1 rfl ?_; intro w2 hn2 hg2 hz2; have y1 := hg2.cell m1 HNB.out; have y2 := hg2.cell m2 HNB.out)
        | (at_mapUpdate; refine step_put rfl (.tmp 13) (.tmp 15) (.tmp 17) rfl b n (Dk.upd f frm none) rfl hn2 to k2 rfl i rfl (by omega) ?_; intro w3 hn3 hg3 hz3)
        | fail)
      go_end0
      exact ⟨rfl, hn3, ((Chg.of_below HB.out).then' (Chg.of_grown hg2 fun x e => by injection e with e; exact e.symm)).then' (Chg.of_grown hg3 fun x e => by injection e with e; exact e.symm)⟩
end Go.Proofs.YtfdppggdgdnnaaaGreatDoor

namespace Go.Proofs.YtfdppggdgdnnaaaGreatDoor
open Go Go.RowKit

/-- A relation of worlds that goes on. -/
structure Goes (G : World → World → Prop) : Prop where
  refl : ∀ w, G w w
  trans : ∀ {a b c}, G a b → G b c → G a c
theorem goes_below (C : Nat) : Goes (fun w w' => Below C w w' ∧ C ≤ w.heap.size ∧ C ≤ w'.heap.size ∨ w = w') :=
  ⟨fun _ => .inr rfl, fun {a b c} h k => by
    rcases h with ⟨h, h1, h2⟩ | rfl
    · rcases k with ⟨k, k1, k2⟩ | rfl
      · exact .inl ⟨h.trans k, h1, k2⟩
      · exact .inl ⟨h, h1, h2⟩
    · exact k⟩
/-- What is known of a slot: it outlives what G lets happen. -/
structure Held (G : World → World → Prop) where
  p : Value → World → Prop
  st : ∀ v w1 w2, p v w1 → G w1 w2 → p v w2
def Held.is {G : World → World → Prop} (x : Value) : Held G := ⟨fun v _ => v = x, fun _ _ _ h _ => h⟩
def Held.any {G : World → World → Prop} : Held G := ⟨fun _ _ => True, fun _ _ _ _ _ => trivial⟩

/-- The form: each operation leaves a value in a slot of its own, and waits for earlier ones alone; for its guard, too. -/
def guardAll (ops : Array Oper) : Bool :=
  (List.range ops.size).all (fun i => match ops[i]? with
    | some o => (match o.guard with | none => true | some (j, _) => decide (j < i) && o.after.any (fun e => e.on == j && Region.binds .any e)) && o.after.all (fun e => decide (e.on < i)) && o.dst.isSome
    | none => false) &&
  decide (dstsAll ops).Nodup

structure MidstG (G : World → World → Prop) (ops : Array Oper) (D : Nat → Value → World → Prop) (a : Act) (w : World) (listed : Array Bool) (a' : Act) (w' : World) : Prop where
  size : a'.tmps.size = a.tmps.size
  defers : a'.defers = a.defers
  same : ∀ k, k ∉ dstsAll ops → a'.tmps[k]? = a.tmps[k]?
  goes : G w w'
  known : ∀ i, i < ops.size → listed.getD i false = true → D (dstOf ops i) (a'.tmps.getD (dstOf ops i) undef) w'

def OpGuard (P : Program) (ev : Operand → Value) (o : Oper) (dj : Nat → Nat) (w1 : World) (Post : Value → World → Prop) : Prop :=
  match o.guard with
  | none => OpRuns P ev o w1 Post
  | some (j, b) => ∃ c, ev (.tmp (dj j)) = .bool c ∧ (c = b → OpRuns P ev o w1 Post) ∧ (c ≠ b → Post undef w1)

theorem wpAny_guard {P : Program} {ops : Array Oper} {Q : Exit → Act → World → Prop} {D : Nat → Value → World → Prop} {G : World → World → Prop} (hG : Goes G) {a : Act} {w : World} (hB : guardAll ops = true)
    (hfit : ∀ d ∈ dstsAll ops, d < a.tmps.size)
    (stable : ∀ d v w1 w2, D d v w1 → G w1 w2 → D d v w2)
    (step : ∀ i o, ops[i]? = some o → ∀ (ev : Operand → Value) w1, G w w1 → (∀ x, (∀ d ∈ dstsAll ops, x ≠ .tmp d) → ev x = a.eval x) →
      (∀ e ∈ o.after.toList, Region.binds .any e = true → D (dstOf ops e.on) (ev (.tmp (dstOf ops e.on))) w1) → OpGuard P ev o (dstOf ops) w1 fun v w2 => G w1 w2 ∧ D (dstOf ops i) v w2)
    (last : ∀ f w1, G w w1 → (∀ d ∈ dstsAll ops, D d (f d) w1) → Q .normal (puts a f (dstsAll ops)) w1) :
    ∀ (fuel : Nat) (listed : Array Bool) (a' : Act) (w' : World), listed.size = ops.size → todo listed = fuel → MidstG G ops D a w listed a' w' → wpAny P .any ops Q fuel listed a' w' := by
  have hB' := hB
  simp only [guardAll, Bool.and_eq_true, decide_eq_true_eq, List.all_eq_true, List.mem_range] at hB'
  obtain ⟨hall, hnd⟩ := hB'
  have form : ∀ (i : Nat) (o : Oper), ops[i]? = some o → (∀ j b, o.guard = some (j, b) → j < i ∧ ∃ e ∈ o.after.toList, e.on = j ∧ Region.binds .any e = true) ∧ (∀ e ∈ o.after.toList, e.on < i) ∧ o.dst.isSome = true := by
    intro i o ho
    have hi : i < ops.size := (Array.getElem?_eq_some_iff.1 ho).1
    have h := hall i hi
    rw [ho] at h
    simp only [Bool.and_eq_true] at h
    refine ⟨fun j b hg => ?_, fun e he => ?_, h.2⟩
    · have h1 := h.1.1
      rw [hg] at h1
      simp only [Bool.and_eq_true, decide_eq_true_eq, Array.any_eq_true, beq_iff_eq] at h1
      obtain ⟨h2, k, hk, h3, h4⟩ := h1
      exact ⟨h2, o.after[k], by simp, h3, h4⟩
    · have := Array.all_eq_true_iff_forall_mem.1 h.1.2 e (by simpa using he)
      simpa using this
  have alive : ∀ listed : Array Bool, listed.size = ops.size → 0 < todo listed → Region.ready .any ops listed ≠ [] := by
    intro listed hs ht he
    obtain ⟨i, hi⟩ : ∃ i, i < ops.size ∧ listed.getD i true = false := by
      unfold todo at ht
      obtain ⟨i, hi, e⟩ := List.mem_iff_getElem.1 (List.count_pos_iff.1 ht)
      have hi' : i < listed.size := by simpa using hi
      exact ⟨i, by omega, by simpa [hi'] using e⟩
    obtain ⟨n, ⟨hn, hf⟩, hmin⟩ : ∃ n, (n < ops.size ∧ listed.getD n true = false) ∧ ∀ m, m < n → listed.getD m true = true := by
      have : ∀ k i, i < k → i < ops.size → listed.getD i true = false → ∃ n, (n < ops.size ∧ listed.getD n true = false) ∧ ∀ m, m < n → listed.getD m true = true := by
        intro k
        induction k with
        | zero => intro i h; omega
        | succ k ih =>
          intro i hik h1 h2
          by_cases hm : ∃ m, m < i ∧ listed.getD m true = false
          · obtain ⟨m, hmi, hmf⟩ := hm
            exact ih m (by omega) (by omega) hmf
          · refine ⟨i, ⟨h1, h2⟩, fun m hmi => ?_⟩
            rcases Bool.eq_false_or_eq_true (listed.getD m true) with h | h
            · exact h
            · exact absurd ⟨m, hmi, h⟩ hm
      exact this (i + 1) i (by omega) hi.1 hi.2
    have hmem : n ∈ Region.ready .any ops listed := by
      refine mem_ready.2 ⟨hf, ops[n], by simp [hn], fun e hee _ => ?_⟩
      have hlt := (form n ops[n] (by simp [hn])).2.1 e (by simpa using hee)
      have := hmin e.on hlt
      have hsz : e.on < listed.size := by omega
      simpa [hsz] using this
    rw [he] at hmem
    cases hmem
  intro fuel
  induction fuel with
  | zero =>
    intro listed a' w' hs ht M
    have hdone : ∀ i, i < ops.size → listed.getD i true = true := by
      intro i hi
      rcases Bool.eq_false_or_eq_true (listed.getD i true) with h | h
      · exact h
      · have := todo_set (i := i) (listed := listed) (by omega) h
        omega
    refine ⟨?_, ?_⟩
    · match hr : Region.ready .any ops listed with
      | [] => rfl
      | i :: _ =>
        exfalso
        have hi : i ∈ Region.ready .any ops listed := by rw [hr]; exact List.mem_cons_self
        obtain ⟨h1, o, ho, _⟩ := mem_ready.1 hi
        have hlt : i < ops.size := (Array.getElem?_eq_some_iff.1 ho).1
        rw [hdone i hlt] at h1
        cases h1
    · have hput : a' = puts a (fun k => a'.tmps.getD k undef) (dstsAll ops) := by
        refine act_eq ?_ (by rw [puts_defers, M.defers])
        apply Array.ext_getElem?
        intro k
        rw [puts_get]
        split
        · rename_i h
          have hk : k < a'.tmps.size := by rw [M.size]; exact h.2
          simp [hk]
        · rename_i h
          by_cases hk : k ∈ dstsAll ops
          · exact absurd ⟨hk, hfit k hk⟩ h
          · exact M.same k hk
      have h := last (fun k => a'.tmps.getD k undef) w' M.goes (fun d hd => by
        obtain ⟨j, hj, rfl⟩ := List.mem_map.1 hd
        have hj' := List.mem_range.1 hj
        refine M.known j hj' ?_
        have := hdone j hj'
        have hsz : j < listed.size := by omega
        simpa [hsz] using this)
      rwa [← hput] at h
  | succ fuel ih =>
    intro listed a' w' hs ht M
    refine ⟨fun he => absurd he (alive listed hs (by omega)), fun i hi => ?_⟩
    obtain ⟨h1, o, ho, hdeps⟩ := mem_ready.1 hi
    have hlt : i < ops.size := (Array.getElem?_eq_some_iff.1 ho).1
    have hset := todo_set (i := i) (listed := listed) (by omega) h1
    obtain ⟨hg, hon, hdst⟩ := form i o ho
    obtain ⟨d, hd⟩ : ∃ d, o.dst = some d := Option.isSome_iff_exists.1 hdst
    have hdi : dstOf ops i = d := by simp [dstOf, ho, hd]
    have hdm : d ∈ dstsAll ops := hdi ▸ dstAll_mem hlt
    have hr := step i o ho a'.eval w' M.goes (fun x hx => by
      cases x with
      | tmp t =>
        have hm : t ∉ dstsAll ops := fun hm => hx t hm rfl
        have := M.same t hm
        simp only [Act.eval, Array.getD_eq_getD_getElem?, this]
      | const c => rfl
      | global g => rfl
      | func f => rfl) (fun e he hbd => M.known e.on (by have := hon e he; omega) (hdeps e (by simpa using he) hbd))
    have fin : ∀ v w2, G w' w2 → D (dstOf ops i) v w2 → wpAny P .any ops Q fuel (listed.setIfInBounds i true) (a'.put o.dst v) w2 := fun v w2 hb2 hD => by
      refine ih _ _ w2 (by simpa using hs) (by omega) ?_
      rw [hd]
      refine ⟨by simp [Act.put, M.size], by simp [Act.put, M.defers], fun k hk => ?_, hG.trans M.goes hb2, fun j hj hjl => ?_⟩
      · have hkd : d ≠ k := fun e => hk (e ▸ hdm)
        simp only [Act.put, Array.getElem?_setIfInBounds, if_neg hkd]
        exact M.same k hk
      · by_cases hji : j = i
        · subst hji
          rw [hdi] at hD ⊢
          have hds : d < a'.tmps.size := by rw [M.size]; exact hfit d hdm
          simpa [Act.put, hds] using hD
        · have hne : d ≠ dstOf ops j := fun e => hji (dstAll_inj hnd hj hlt (by rw [hdi, e]))
          have hold : listed.getD j false = true := by rwa [getD_set_ne false (Ne.symm hji)] at hjl
          have := stable _ _ _ _ (M.known j hj hold) hb2
          simpa [Act.put, Array.getElem?_setIfInBounds, hne] using this
    unfold wpOp
    simp only [ho]
    unfold OpGuard at hr
    cases hgd : o.guard with
    | none =>
      rw [hgd] at hr
      rw [if_pos (by simp [Region.wanted, hgd])]
      exact .inl (hr.wp fun v w2 ⟨hb2, hD⟩ => fin v w2 hb2 hD)
    | some jb =>
      obtain ⟨j, b⟩ := jb
      rw [hgd] at hr
      obtain ⟨c, hc, hy, hn⟩ := hr
      have hj : j < ops.size := by have := (hg j b hgd).1; omega
      have hyd : yielded ops a'.tmps j = some c := by
        have hoj : ops[j]? = some ops[j] := by simp [hj]
        obtain ⟨dj, hdj⟩ : ∃ dj, ops[j].dst = some dj := Option.isSome_iff_exists.1 (form j _ hoj).2.2
        have e1 : dstOf ops j = dj := by simp [dstOf, hoj, hdj]
        rw [e1] at hc
        have hcell : a'.tmps[dj]? = some (.bool c) := by
          simp only [Act.eval, Array.getD_eq_getD_getElem?] at hc
          cases ht : a'.tmps[dj]? with
          | none => rw [ht] at hc; simp [undef] at hc
          | some v => rw [ht] at hc; simp at hc; rw [hc]
        unfold yielded
        rw [hoj]
        simp [hdj, hcell]
      by_cases hcb : c = b
      · rw [if_pos (by simp [Region.wanted, hgd, hyd, hcb])]
        exact .inl ((hy hcb).wp fun v w2 ⟨hb2, hD⟩ => fin v w2 hb2 hD)
      · rw [if_neg (by simp [Region.wanted, hgd, hyd, hcb])]
        exact fin undef w' (hn hcb).1 (hn hcb).2

def DepsG {G : World → World → Prop} (dsts : List Nat) (T : Nat → Held G) (ev : Operand → Value) (w1 : World) : List Edge → Prop
  | [] => True
  | e :: es => (T (dsts.getD e.on 0)).p (ev (.tmp (dsts.getD e.on 0))) w1 ∧ DepsG dsts T ev w1 es
def StepG {G : World → World → Prop} (P : Program) (dsts : List Nat) (T : Nat → Held G) (a : Act) (w : World) (o : Oper) (d : Nat) : Prop :=
  ∀ (ev : Operand → Value) w1, G w w1 → (∀ x, (∀ d ∈ dsts, x ≠ .tmp d) → ev x = a.eval x) → DepsG dsts T ev w1 o.after.toList → OpGuard P ev o (fun j => dsts.getD j 0) w1 fun v w2 => G w1 w2 ∧ (T d).p v w2
def StepsG {G : World → World → Prop} (P : Program) (dsts : List Nat) (T : Nat → Held G) (a : Act) (w : World) : List Oper → List Nat → Prop
  | o :: os, d :: ds => StepG P dsts T a w o d ∧ StepsG P dsts T a w os ds
  | _, _ => True
theorem depsG_of {G : World → World → Prop} {dsts : List Nat} {T : Nat → Held G} {ev : Operand → Value} {w1 : World} : ∀ {es : List Edge}, (∀ e ∈ es, (T (dsts.getD e.on 0)).p (ev (.tmp (dsts.getD e.on 0))) w1) → DepsG dsts T ev w1 es
  | [], _ => trivial
  | _ :: _, h => ⟨h _ List.mem_cons_self, depsG_of fun e he => h e (List.mem_cons_of_mem _ he)⟩
theorem stepsG_at {G : World → World → Prop} {P : Program} {dsts : List Nat} {T : Nat → Held G} {a : Act} {w : World} : ∀ {os : List Oper} {ds : List Nat} (_ : StepsG P dsts T a w os ds) (i : Nat) {o : Oper} {d : Nat}, os[i]? = some o → ds[i]? = some d → StepG P dsts T a w o d
  | [], _, _, i, _, _, h, _ => by simp at h
  | _ :: _, [], _, i, _, _, _, h => by simp at h
  | _ :: os, _ :: ds, h, 0, _, _, ho, hd => by simp at ho hd; subst ho hd; exact h.1
  | _ :: os, _ :: ds, h, i + 1, _, _, ho, hd => stepsG_at h.2 i (by simpa using ho) (by simpa using hd)

/-- THE LAW. -/
theorem wp_region_guard {P : Program} {id : Nat} {ops : Array Oper} {Q : Exit → Act → World → Prop} {G : World → World → Prop} (hG : Goes G) (dsts : List Nat) (T : Nat → Held G) {a : Act} {w : World} (hm : P.follows .mixedOrders = true)
    (hB : (guardAll ops && edgesBind ops && decide (dstsAll ops = dsts)) = true)
    (hfit : (dsts.all fun d => decide (d < a.tmps.size)) = true)
    (steps : StepsG P dsts T a w.drew ops.toList dsts)
    (last : ∀ f w1, G w.drew w1 → (∀ d ∈ dsts, (T d).p (f d) w1) → Q .normal (puts a f dsts) w1) : (Code.region id ops true).wp P Q a w := by
  simp only [Bool.and_eq_true, decide_eq_true_eq] at hB
  obtain ⟨⟨hB, hbind⟩, rfl⟩ := hB
  have hB' := hB
  simp only [guardAll, Bool.and_eq_true] at hB'
  have hform := hB'.1
  rw [List.all_eq_true] at hform
  refine wp_region_any hm (wpAny_guard (D := fun d v w => (T d).p v w) hG (w := w.drew) hB (fun d hd => by simpa using List.all_eq_true.1 hfit d hd) (fun d v w1 w2 h hb => (T d).st v w1 w2 h hb)
    (fun i o ho ev w1 hb hev hdeps => ?_) (fun f w1 hb h => last f w1 hb h) _ _ _ _ (by simp) (by simp [todo]) ⟨rfl, rfl, fun _ _ => rfl, hG.refl _, fun i hi h => ?_⟩)
  · have hlt : i < ops.size := (Array.getElem?_eq_some_iff.1 ho).1
    have h1 := stepsG_at steps i (o := o) (d := dstOf ops i) (by simpa using ho) (by simp [dstsAll, hlt])
    have hf := hform i (List.mem_range.2 hlt)
    rw [ho] at hf
    simp only [Bool.and_eq_true] at hf
    have hget : ∀ j, j < ops.size → (dstsAll ops).getD j 0 = dstOf ops j := fun j hj => by simp [dstsAll, List.getD, hj]
    have h2 := h1 ev w1 hb hev (depsG_of fun e he => ?_)
    · unfold OpGuard at h2 ⊢
      cases hgd : o.guard with
      | none => rw [hgd] at h2; exact h2
      | some jb =>
        obtain ⟨j, b⟩ := jb
        rw [hgd] at h2
        have hj : j < i := by
          have h3 := hf.1.1
          rw [hgd] at h3
          simp only [Bool.and_eq_true, decide_eq_true_eq] at h3
          exact h3.1
        simp only [hget j (by omega)] at h2
        exact h2
    · have hon : e.on < i := by simpa using Array.all_eq_true_iff_forall_mem.1 hf.1.2 e (by simpa using he)
      have hbd : Region.binds .any e = true := by
        have h2 := Array.all_eq_true_iff_forall_mem.1 hbind o (Array.mem_of_getElem? ho)
        exact Array.all_eq_true_iff_forall_mem.1 h2 e (by simpa using he)
      rw [hget e.on (by omega)]
      exact hdeps e he hbd
  · have h0 : (Array.replicate ops.size false).getD i false = false := by simp [show i < ops.size by omega]
    rw [h0] at h; cases h
end Go.Proofs.YtfdppggdgdnnaaaGreatDoor

namespace Go.Proofs.YtfdppggdgdnnaaaGreatDoor
open Go Go.RowKit

/-- As openForm, but an operation may be waited for by one that is waited for. -/
def openForm2 (ops : Array Oper) : Bool :=
  decide (0 < ops.size) &&
  (List.range ops.size).all (fun i => match ops[i]? with
    | some o => o.guard.isNone && o.after.all (fun e => decide (e.on < i)) && (decide (i = ops.size - 1) || o.dst.isSome)
    | none => false) &&
  (List.range (ops.size - 1)).all (fun i => match ops[ops.size - 1]? with
    | some o => o.after.any (fun e => e.on == i && Region.binds .any e) || o.after.any (fun e => Region.binds .any e && (match ops[e.on]? with
      | some o2 => o2.after.any (fun e2 => e2.on == i && Region.binds .any e2)
      | none => false))
    | none => false) &&
  decide (dstsOf ops).Nodup

structure MidstS (G : World → World → Prop) (P : Program) (ops : Array Oper) (D : Nat → Value → World → Prop) (a : Act) (w : World) (listed : Array Bool) (a' : Act) (w' : World) : Prop where
  size : a'.tmps.size = a.tmps.size
  defers : a'.defers = a.defers
  same : ∀ k, k ∉ dstsOf ops → a'.tmps[k]? = a.tmps[k]?
  below : G w w'
  known : ∀ i, i < ops.size - 1 → listed.getD i false = true → D (dstOf ops i) (a'.tmps.getD (dstOf ops i) undef) w'
  closed : ∀ (j : Nat) (o : Oper), ops[j]? = some o → listed.getD j false = true → ∀ e ∈ o.after.toList, Region.binds .any e = true → listed.getD e.on false = true

theorem wpAny_openS {G : World → World → Prop} (hG : Goes G) {P : Program} {ops : Array Oper} {Q : Exit → Act → World → Prop} {D : Nat → Value → World → Prop} {a : Act} {w : World} (hB : openForm2 ops = true)
    (hfit : ∀ d ∈ dstsOf ops, d < a.tmps.size)
    (stable : ∀ d v w1 w2, D d v w1 → G w1 w2 → D d v w2)
    (step : ∀ i o, i < ops.size - 1 → ops[i]? = some o → ∀ (ev : Operand → Value) w1, G w w1 → (∀ x, (∀ d ∈ dstsOf ops, x ≠ .tmp d) → ev x = a.eval x) →
      (∀ e ∈ o.after.toList, e.on < ops.size - 1 → Region.binds .any e = true → D (dstOf ops e.on) (ev (.tmp (dstOf ops e.on))) w1) → OpRuns P ev o w1 fun v w2 => G w1 w2 ∧ D (dstOf ops i) v w2)
    (last : ∀ o, ops[ops.size - 1]? = some o → ∀ f w1, G w w1 → (∀ d ∈ dstsOf ops, D d (f d) w1) → o.wp P (puts a f (dstsOf ops)) w1 (fun a' w' => Q .normal a' w') Q ∨ (o.asks P (puts a f (dstsOf ops)) w1 ∧ LetsOut Q)) :
    ∀ (fuel : Nat) (listed : Array Bool) (a' : Act) (w' : World), listed.size = ops.size → todo listed = fuel →
      (listed.getD (ops.size - 1) true = false → MidstS G P ops D a w listed a' w') → (listed.getD (ops.size - 1) true = true → todo listed = 0 ∧ Q .normal a' w') → wpAny P .any ops Q fuel listed a' w' := by
  have hB' := hB
  simp only [openForm2, Bool.and_eq_true, decide_eq_true_eq, List.all_eq_true, List.mem_range] at hB'
  obtain ⟨⟨⟨hpos, hall⟩, hlast⟩, hnd⟩ := hB'
  -- each operation's own form
  have form : ∀ i o, ops[i]? = some o → o.guard = none ∧ (∀ e ∈ o.after.toList, e.on < i) ∧ (i = ops.size - 1 ∨ o.dst.isSome = true) := by
    intro i o ho
    have hi : i < ops.size := (Array.getElem?_eq_some_iff.1 ho).1
    have h := hall i hi
    rw [ho] at h
    simp only [Bool.and_eq_true, Bool.or_eq_true, decide_eq_true_eq, Option.isNone_iff_eq_none] at h
    refine ⟨h.1.1, fun e he => ?_, h.2⟩
    have := Array.all_eq_true_iff_forall_mem.1 h.1.2 e (by simpa using he)
    simpa using this
  -- where some are still to come one may come up
  have alive : ∀ listed : Array Bool, listed.size = ops.size → 0 < todo listed → Region.ready .any ops listed ≠ [] := by
    intro listed hs ht he
    obtain ⟨i, hi⟩ : ∃ i, i < ops.size ∧ listed.getD i true = false := by
      unfold todo at ht
      obtain ⟨i, hi, e⟩ := List.mem_iff_getElem.1 (List.count_pos_iff.1 ht)
      have hi' : i < listed.size := by simpa using hi
      exact ⟨i, by omega, by simpa [hi'] using e⟩
    obtain ⟨n, ⟨hn, hf⟩, hmin⟩ : ∃ n, (n < ops.size ∧ listed.getD n true = false) ∧ ∀ m, m < n → listed.getD m true = true := by
      have : ∀ k i, i < k → i < ops.size → listed.getD i true = false → ∃ n, (n < ops.size ∧ listed.getD n true = false) ∧ ∀ m, m < n → listed.getD m true = true := by
        intro k
        induction k with
        | zero => intro i h; omega
        | succ k ih =>
          intro i hik h1 h2
          by_cases hm : ∃ m, m < i ∧ listed.getD m true = false
          · obtain ⟨m, hmi, hmf⟩ := hm
            exact ih m (by omega) (by omega) hmf
          · refine ⟨i, ⟨h1, h2⟩, fun m hmi => ?_⟩
            rcases Bool.eq_false_or_eq_true (listed.getD m true) with h | h
            · exact h
            · exact absurd ⟨m, hmi, h⟩ hm
      exact this (i + 1) i (by omega) hi.1 hi.2
    have hmem : n ∈ Region.ready .any ops listed := by
      refine mem_ready.2 ⟨hf, ops[n], by simp [hn], fun e hee _ => ?_⟩
      have hlt := (form n ops[n] (by simp [hn])).2.1 e (by simpa using hee)
      have := hmin e.on hlt
      have hsz : e.on < listed.size := by omega
      simpa [hsz] using this
    rw [he] at hmem
    cases hmem
  intro fuel
  induction fuel with
  | zero =>
    intro listed a' w' hs ht _ hdone
    have hl : listed.getD (ops.size - 1) true = true := by
      rcases Bool.eq_false_or_eq_true (listed.getD (ops.size - 1) true) with h | h
      · exact h
      · have := todo_set (i := ops.size - 1) (listed := listed) (by omega) h
        omega
    refine ⟨?_, (hdone hl).2⟩
    match hr : Region.ready .any ops listed with
    | [] => rfl
    | i :: _ =>
      exfalso
      have hi : i ∈ Region.ready .any ops listed := by rw [hr]; exact List.mem_cons_self
      obtain ⟨h1, o, ho, _⟩ := mem_ready.1 hi
      have hlt : i < ops.size := (Array.getElem?_eq_some_iff.1 ho).1
      have := todo_set (i := i) (listed := listed) (by omega) h1
      omega
  | succ fuel ih =>
    intro listed a' w' hs ht hmid hdone
    refine ⟨fun he => absurd he (alive listed hs (by omega)), fun i hi => ?_⟩
    obtain ⟨h1, o, ho, hdeps⟩ := mem_ready.1 hi
    have hlt : i < ops.size := (Array.getElem?_eq_some_iff.1 ho).1
    have hset := todo_set (i := i) (listed := listed) (by omega) h1
    obtain ⟨hg, hon, hdst⟩ := form i o ho
    have hl : listed.getD (ops.size - 1) true = false := by
      rcases Bool.eq_false_or_eq_true (listed.getD (ops.size - 1) true) with h | h
      · have := (hdone h).1; omega
      · exact h
    have M := hmid hl
    unfold wpOp
    simp only [ho]
    rw [if_pos (by simp [Region.wanted, hg])]
    by_cases hil : i = ops.size - 1
    · -- the last: all others have come up
      subst hil
      have hallL : ∀ j, j < ops.size - 1 → listed.getD j false = true := by
        intro j hj
        have h := hlast j hj
        rw [ho] at h
        simp only [Bool.or_eq_true, Array.any_eq_true, Bool.and_eq_true, beq_iff_eq] at h
        rcases h with ⟨k, hk, h2, h3⟩ | ⟨k, hk, h3, h4⟩
        · have := hdeps o.after[k] (Array.getElem_mem hk) h3
          rwa [h2] at this
        · have h5 := hdeps o.after[k] (Array.getElem_mem hk) h3
          cases ho2 : ops[o.after[k].on]? with
          | none => rw [ho2] at h4; cases h4
          | some o2 =>
            rw [ho2] at h4
            simp only [Array.any_eq_true, Bool.and_eq_true, beq_iff_eq] at h4
            obtain ⟨k2, hk2, h6, h7⟩ := h4
            have := M.closed _ o2 ho2 h5 o2.after[k2] (by simp) h7
            rwa [h6] at this
      have hput : a' = puts a (fun k => a'.tmps.getD k undef) (dstsOf ops) := by
        have ht : a'.tmps = (puts a (fun k => a'.tmps.getD k undef) (dstsOf ops)).tmps := by
          apply Array.ext_getElem?
          intro k
          rw [puts_get]
          split
          · rename_i h
            have hk : k < a'.tmps.size := by rw [M.size]; exact h.2
            simp [hk]
          · rename_i h
            by_cases hk : k ∈ dstsOf ops
            · exact absurd ⟨hk, hfit k hk⟩ h
            · exact M.same k hk
        have hd : a'.defers = (puts a (fun k => a'.tmps.getD k undef) (dstsOf ops)).defers := by rw [puts_defers, M.defers]
        exact act_eq ht hd
      have h := last o ho (fun k => a'.tmps.getD k undef) w' M.below (fun d hd => by
        obtain ⟨j, hj, rfl⟩ := List.mem_map.1 hd
        exact M.known j (List.mem_range.1 hj) (hallL j (List.mem_range.1 hj)))
      rw [← hput] at h
      have hall0 : todo (listed.setIfInBounds (ops.size - 1) true) = 0 := by
        unfold todo
        rw [List.count_eq_zero]
        intro hmem
        obtain ⟨j, hj, e⟩ := List.mem_iff_getElem.1 hmem
        have hj' : j < listed.size := by simpa using hj
        by_cases hjl : j = ops.size - 1
        · subst hjl
          simp at e
        · have h2 := hallL j (by omega)
          have e2 : listed[j] = false := by
            simpa [Array.getElem_setIfInBounds, Ne.symm hjl] using e
          simp [hj', e2] at h2
      refine h.imp (fun h => Oper.wp_mono (fun a2 w2 hq => ih _ a2 w2 (by simpa using hs) (by omega) (fun h => ?_) (fun _ => ⟨hall0, hq⟩)) h) id
      rw [getD_set_self (by omega)] at h
      cases h
    · -- one of the others
      have hi1 : i < ops.size - 1 := by omega
      obtain ⟨d, hd⟩ : ∃ d, o.dst = some d := Option.isSome_iff_exists.1 (hdst.resolve_left hil)
      have hdi : dstOf ops i = d := by simp [dstOf, ho, hd]
      have hdm : d ∈ dstsOf ops := hdi ▸ dst_mem hi1
      have hr := step i o hi1 ho a'.eval w' M.below (fun x hx => by
        cases x with
        | tmp t =>
          have hm : t ∉ dstsOf ops := fun hm => hx t hm rfl
          have := M.same t hm
          simp only [Act.eval, Array.getD_eq_getD_getElem?, this]
        | const c => rfl
        | global g => rfl
        | func f => rfl) (fun e he hen hbd => M.known e.on hen (hdeps e (by simpa using he) hbd))
      left
      refine hr.wp fun v w2 ⟨hb2, hD⟩ => ih _ _ w2 (by simpa using hs) (by omega) (fun _ => ?_) (fun h => ?_)
      · rw [hd]
        refine ⟨by simp [Act.put, M.size], by simp [Act.put, M.defers], fun k hk => ?_, hG.trans M.below hb2, fun j hj hjl => ?_, fun j o2 ho2 hjl e he hbd => ?_⟩
        · have hkd : d ≠ k := fun e => hk (e ▸ hdm)
          simp only [Act.put, Array.getElem?_setIfInBounds, if_neg hkd]
          exact M.same k hk
        · by_cases hji : j = i
          · subst hji
            rw [hdi] at hD ⊢
            have hds : d < a'.tmps.size := by rw [M.size]; exact hfit d hdm
            simpa [Act.put, hds] using hD
          · have hne : d ≠ dstOf ops j := fun e => hji (dst_inj hnd hj hi1 (by rw [hdi, e]))
            have hold : listed.getD j false = true := by rwa [getD_set_ne false (Ne.symm hji)] at hjl
            have := stable _ _ _ _ (M.known j hj hold) hb2
            simpa [Act.put, Array.getElem?_setIfInBounds, hne] using this
        · have mono : ∀ x, listed.getD x false = true → (listed.setIfInBounds i true).getD x false = true := fun x hx => by
            by_cases hxi : x = i
            · subst hxi; exact getD_set_self (by omega) false
            · rw [getD_set_ne false (Ne.symm hxi)]; exact hx
          by_cases hji : j = i
          · subst hji
            obtain rfl : o2 = o := Option.some.inj (ho2.symm.trans ho)
            exact mono _ (hdeps e (by simpa using he) hbd)
          · have hold : listed.getD j false = true := by rwa [getD_set_ne false (Ne.symm hji)] at hjl
            exact mono _ (M.closed j o2 ho2 hold e he hbd)
      · rw [getD_set_ne true hil] at h
        rw [hl] at h
        cases h

/-- THE LAW. -/
theorem wp_region_openS {G : World → World → Prop} (hG : Goes G) {P : Program} {id : Nat} {ops : Array Oper} {Q : Exit → Act → World → Prop} (D : Nat → Value → World → Prop) {a : Act} {w : World} (hm : P.follows .mixedOrders = true) (hB : openForm2 ops = true)
    (hfit : ((dstsOf ops).all fun d => decide (d < a.tmps.size)) = true)
    (stable : ∀ d v w1 w2, D d v w1 → G w1 w2 → D d v w2)
    (step : ∀ i o, i < ops.size - 1 → ops[i]? = some o → ∀ (ev : Operand → Value) w1, G w.drew w1 → (∀ x, (∀ d ∈ dstsOf ops, x ≠ .tmp d) → ev x = a.eval x) →
      (∀ e ∈ o.after.toList, e.on < ops.size - 1 → Region.binds .any e = true → D (dstOf ops e.on) (ev (.tmp (dstOf ops e.on))) w1) → OpRuns P ev o w1 fun v w2 => G w1 w2 ∧ D (dstOf ops i) v w2)
    (last : ∀ o, ops[ops.size - 1]? = some o → ∀ f w1, G w.drew w1 → (∀ d ∈ dstsOf ops, D d (f d) w1) → wpList P ops Q [o] (puts a f (dstsOf ops)) w1) : (Code.region id ops true).wp P Q a w := by
  have hB' := hB
  simp only [openForm2, Bool.and_eq_true, decide_eq_true_eq] at hB'
  have hpos := hB'.1.1.1
  refine wp_region_any hm (wpAny_openS hG (D := D) (w := w.drew) hB (fun d hd => by simpa using List.all_eq_true.1 hfit d hd) stable
    step (fun o ho f w1 hb hD => ?_) _ _ _ _ (by simp) ?_ (fun _ => ?_) (fun h => ?_))
  · have h := last o ho f w1 hb hD
    have hall := hB'.1.1.2
    rw [List.all_eq_true] at hall
    have hg := hall (ops.size - 1) (List.mem_range.2 (by omega))
    rw [ho] at hg
    simp only [Bool.and_eq_true, Option.isNone_iff_eq_none] at hg
    unfold wpList at h
    rw [if_pos (by simp [Region.wanted, hg.1.1])] at h
    exact h
  · simp [todo]
  · refine ⟨rfl, rfl, fun _ _ => rfl, hG.refl _, fun i hi h => ?_, fun j o2 ho2 h => ?_⟩
    · have h0 : (Array.replicate ops.size false).getD i false = false := by simp [show i < ops.size by omega]
      rw [h0] at h; cases h
    · have hj : j < ops.size := (Array.getElem?_eq_some_iff.1 ho2).1
      have h0 : (Array.replicate ops.size false).getD j false = false := by simp [hj]
      rw [h0] at h; cases h
  · have h0 : (Array.replicate ops.size false).getD (ops.size - 1) true = false := by simp [show ops.size - 1 < ops.size by omega]
    rw [h0] at h; cases h
def StepH {G : World → World → Prop} (P : Program) (dsts : List Nat) (T : Nat → Held G) (a : Act) (w : World) (o : Oper) (d : Nat) : Prop :=
  ∀ (ev : Operand → Value) w1, G w w1 → (∀ x, (∀ d ∈ dsts, x ≠ .tmp d) → ev x = a.eval x) → DepsG dsts T ev w1 o.after.toList → OpRuns P ev o w1 fun v w2 => G w1 w2 ∧ (T d).p v w2
def StepsH {G : World → World → Prop} (P : Program) (dsts : List Nat) (T : Nat → Held G) (a : Act) (w : World) : List Oper → List Nat → Prop
  | o :: os, d :: ds => StepH P dsts T a w o d ∧ StepsH P dsts T a w os ds
  | _, _ => True
theorem stepsH_at {G : World → World → Prop} {P : Program} {dsts : List Nat} {T : Nat → Held G} {a : Act} {w : World} : ∀ {os : List Oper} {ds : List Nat} (_ : StepsH P dsts T a w os ds) (i : Nat) {o : Oper} {d : Nat}, os[i]? = some o → ds[i]? = some d → StepH P dsts T a w o d
  | [], _, _, i, _, _, h, _ => by simp at h
  | _ :: _, [], _, i, _, _, _, h => by simp at h
  | _ :: os, _ :: ds, h, 0, _, _, ho, hd => by simp at ho hd; subst ho hd; exact h.1
  | _ :: os, _ :: ds, h, i + 1, _, _, ho, hd => stepsH_at h.2 i (by simpa using ho) (by simpa using hd)

/-- A region that is written out, its last operation a store that waits for all. -/
theorem wp_region_store {G : World → World → Prop} (hG : Goes G) {P : Program} {id : Nat} {ops : Array Oper} {Q : Exit → Act → World → Prop} (dsts : List Nat) (T : Nat → Held G) (o : Oper) {a : Act} {w : World} (hm : P.follows .mixedOrders = true)
    (hB : (openForm2 ops && edgesBind ops && decide (dstsOf ops = dsts)) = true)
    (ho : ops[ops.size - 1]? = some o)
    (hfit : (dsts.all fun d => decide (d < a.tmps.size)) = true)
    (steps : StepsH P dsts T a w.drew (ops.toList.take (ops.size - 1)) dsts)
    (last : ∀ f w1, G w.drew w1 → (∀ d ∈ dsts, (T d).p (f d) w1) → wpList P ops Q [o] (puts a f dsts) w1) : (Code.region id ops true).wp P Q a w := by
  simp only [Bool.and_eq_true, decide_eq_true_eq] at hB
  obtain ⟨⟨hB, hbind⟩, rfl⟩ := hB
  have hB' := hB
  simp only [openForm2, Bool.and_eq_true, decide_eq_true_eq] at hB'
  have hform := hB'.1.1.2
  rw [List.all_eq_true] at hform
  refine wp_region_openS hG (fun d v w => (T d).p v w) hm hB hfit (fun d v w1 w2 h hb => (T d).st v w1 w2 h hb) ?_ (fun o' ho' f w1 hb h => ?_)
  · intro i o hi ho ev w1 hb hev hdeps
    have hlt : i < ops.size := by omega
    have h1 := stepsH_at steps i (o := o) (d := dstOf ops i) (by
      rw [List.getElem?_take, if_pos hi]
      simpa using ho) (by simp [dstsOf, hi])
    refine h1 ev w1 hb hev (depsG_of fun e he => ?_)
    have hf := hform i (List.mem_range.2 hlt)
    rw [ho] at hf
    simp only [Bool.and_eq_true] at hf
    have hon : e.on < i := by simpa using Array.all_eq_true_iff_forall_mem.1 hf.1.2 e (by simpa using he)
    have hbd : Region.binds .any e = true := by
      have h2 := Array.all_eq_true_iff_forall_mem.1 hbind o (Array.mem_of_getElem? ho)
      exact Array.all_eq_true_iff_forall_mem.1 h2 e (by simpa using he)
    have hg : (dstsOf ops).getD e.on 0 = dstOf ops e.on := by simp [dstsOf, List.getD, show e.on < ops.size - 1 by omega]
    rw [hg]
    exact hdeps e he (by omega) hbd
  · obtain rfl : o' = o := Option.some.inj (ho'.symm.trans ho)
    exact last f w1 hb h


end Go.Proofs.YtfdppggdgdnnaaaGreatDoor

namespace Go.Proofs.YtfdppggdgdnnaaaGreatDoor
open Go.RowKit Go.Maps

theorem mv_info : (Tryz.prog.info? 142).map (fun i => (i.zero, i.size, i.bytes)) = some (some (.agg #[.string ⟨#[]⟩, .string ⟨#[]⟩, .pointer none]), 3, 40) := by kernel_rfl
theorem mvCells_len (ms : List Dk.Mv) : (ms.flatMap mvCells).length = ms.length * 3 := by
  induction ms with
  | nil => rfl
  | cons m ms ih => rw [List.flatMap_cons, List.length_append, ih, List.length_cons]; simp [mvCells]; omega
theorem mvCells_one (m : Dk.Mv) : ∀ u ∈ mvCells m, u.oneCell' = true := fun u hu => by
  simp only [mvCells, List.mem_cons, List.not_mem_nil, or_false] at hu
  rcases hu with rfl | rfl | rfl
  · rfl
  · rfl
  · cases m.file <;> rfl
theorem row_succD {w : World} {base : Nat} {e : TypeId} {size n : Nat} {v : Value} {xs : List Value} (h : w.ownsRow base e size v (n + 1) xs) : ∃ g cap, v = .slice (some ⟨g, 0, none⟩) (n + 1) cap := by
  rcases h.2 with ⟨_, h0⟩ | ⟨g, cap, cur, e, _⟩
  · omega
  · exact ⟨g, cap, e⟩

def updRow (n : Nat) (m : Dk.Mv) (cur : Array Value) : Array Value := (cur.toList.take (n * 3) ++ mvCells m ++ cur.toList.drop (n * 3 + 3)).toArray
theorem updRow_size {n : Nat} {m : Dk.Mv} {cur : Array Value} (h : n * 3 + 3 ≤ cur.size) : (updRow n m cur).size = cur.size := by
  simp [updRow, mvCells]; omega
theorem updRow_idem {n : Nat} {m : Dk.Mv} {cur : Array Value} (h : n * 3 + 3 ≤ cur.size) : updRow n m (updRow n m cur) = updRow n m cur := by
  unfold updRow
  have h1 : (cur.toList.take (n * 3)).length = n * 3 := by simp; omega
  have h2 : (mvCells m).length = 3 := rfl
  congr 1
  simp only [List.append_assoc]
  congr 1
  · rw [List.take_append_of_le_length (by omega), List.take_take]; simp
  · congr 1
    rw [List.drop_append, List.drop_append, List.drop_eq_nil_of_le (by omega), List.drop_eq_nil_of_le (by omega)]
    simp [h1, h2]
theorem updRow_take {n : Nat} {m : Dk.Mv} {cur : Array Value} (h : n * 3 + 3 ≤ cur.size) : (updRow n m cur).toList.take ((n + 1) * 3) = cur.toList.take (n * 3) ++ mvCells m := by
  have h1 : (cur.toList.take (n * 3)).length = n * 3 := by simp; omega
  have h2 : (mvCells m).length = 3 := rfl
  have h3 : (cur.toList.take (n * 3) ++ mvCells m).length = (n + 1) * 3 := by rw [List.length_append, h1, h2]; omega
  show (cur.toList.take (n * 3) ++ mvCells m ++ cur.toList.drop (n * 3 + 3)).take ((n + 1) * 3) = _
  rw [List.take_append_of_le_length (by omega), List.take_of_length_le (by omega)]

/-- There is room in the row that sv tells. -/
def RowR (sv : Value) (n k : Nat) : Prop := ∃ cap, sv = .slice (some ⟨k, 0, none⟩) n cap ∧ n + 1 ≤ cap
/-- What the statement may do, however often. -/
structure RowG (w2 : World) (sv : Value) (n : Nat) (m : Dk.Mv) (a b : World) : Prop where
  chg : Chg (RowR sv n) a b
  row : ∀ k cur0, RowR sv n k → w2.heap[k]? = some (.cells cur0 142 (0, 0)) → (b.heap[k]? = a.heap[k]? ∨ b.heap[k]? = some (.cells (updRow n m cur0) 142 (0, 0)))
theorem rowG_goes (w2 : World) (sv : Value) (n : Nat) (m : Dk.Mv) : Goes (RowG w2 sv n m) :=
  ⟨fun w => ⟨Chg.refl _ w, fun _ _ _ _ => .inl rfl⟩, fun {a b c} h k => ⟨h.chg.then k.chg, fun x cur0 hx hc => by
    rcases k.row x cur0 hx hc with e | e
    · rcases h.row x cur0 hx hc with e2 | e2
      · exact .inl (e.trans e2)
      · exact .inr (e.trans e2)
    · exact .inr e⟩⟩
/-- The row with the move behind it. -/
def RowOk (w2 : World) (sv : Value) (n : Nat) (ms : List Dk.Mv) (m : Dk.Mv) (v : Value) (w : World) : Prop :=
  (∃ k cap cur0, sv = .slice (some ⟨k, 0, none⟩) n cap ∧ n + 1 ≤ cap ∧ v = .slice (some ⟨k, 0, none⟩) (n + 1) cap ∧ w2.heap[k]? = some (.cells cur0 142 (0, 0)) ∧ w.heap[k]? = some (.cells (updRow n m cur0) 142 (0, 0))) ∨
  (∃ g, w2.heap.size ≤ g ∧ v.ownBlock = some g ∧ w.ownsRow 0 142 3 v (n + 1) ((ms ++ [m]).flatMap mvCells) ∧ ¬ RowR sv n g)
theorem RowOk.st {w2 : World} {sv : Value} {n : Nat} {ms : List Dk.Mv} {m : Dk.Mv} {v : Value} {a b : World} (h : RowOk w2 sv n ms m v a) (hg : RowG w2 sv n m a b) : RowOk w2 sv n ms m v b := by
  rcases h with ⟨k, cap, cur0, h1, h2, h3, h4, h5⟩ | ⟨g, h1, h2, h3, h4⟩
  · refine .inl ⟨k, cap, cur0, h1, h2, h3, h4, ?_⟩
    rcases hg.row k cur0 ⟨cap, h1, h2⟩ h4 with e | e
    · exact e.trans h5
    · exact e
  · exact .inr ⟨g, h1, h2, ownsRow_same h3 fun x hx => by
      rw [h2] at hx; injection hx with hx; subst hx
      exact hg.chg.block _ (h3.lt _ h2).2 h4, h4⟩
theorem RowOk.owns {w2 : World} {sv : Value} {n : Nat} {ms : List Dk.Mv} {m : Dk.Mv} {v : Value} {w : World} (h : RowOk w2 sv n ms m v w) (hr : w2.ownsRow 0 142 3 sv n (ms.flatMap mvCells)) :
    w.ownsRow 0 142 3 v (n + 1) ((ms ++ [m]).flatMap mvCells) ∧ (∀ g, v.ownBlock = some g → sv.ownBlock = some g ∨ w2.heap.size ≤ g) := by
  rcases h with ⟨k, cap, cur0, h1, h2, h3, h4, h5⟩ | ⟨g, h1, h2, h3, h4⟩
  · rcases hr.2 with ⟨e, _⟩ | ⟨g, cap', cur, e, _, hh, hc, hm, hs, ht⟩
    · rw [e] at h1; cases h1
    · rw [h1] at e
      injection e with e1 e2 e3
      injection e1 with e1
      injection e1 with e1
      subst e1
      subst e3
      rw [h4] at hh
      injection hh with hh
      injection hh with hh _ _
      subst hh
      have hsz : n * 3 + 3 ≤ cur0.size := by rw [hs]; omega
      refine ⟨⟨by rw [mvCells_len, List.length_append]; have := hr.1; rw [mvCells_len] at this; simp; omega, .inr ⟨k, cap, updRow n m cur0, h3, Nat.zero_le _, h5, h2, hm, by rw [updRow_size hsz]; exact hs, ?_⟩⟩, fun g hg => by rw [h3] at hg; rw [h1]; exact .inl hg⟩
      rw [updRow_take hsz, ht, List.flatMap_append]
      simp
  · exact ⟨h3, fun x hx => by rw [h2] at hx; injection hx with hx; exact .inr (by omega)⟩

theorem run_mvG (w2 w1 : World) (sv : Value) (n : Nat) (ms : List Dk.Mv) (m : Dk.Mv) (hr : w2.ownsRow 0 142 3 sv n (ms.flatMap mvCells)) (hG : RowG w2 sv n m w2 w1) (g : Nat) (hlen : n ≤ 1099511627776)
    (c0 : w1.cell? ⟨g, 0, none⟩ = some (encStr m.frm)) (c1 : w1.cell? ⟨g, 1, none⟩ = some (encStr m.to)) (c2 : w1.cell? ⟨g, 2, none⟩ = some (fileV m.file)) (ty : TypeId) :
    ∃ v' w', (Builtin.append_ #[124, 124] ty #[sv, .slice (some ⟨g, 0, none⟩) 1 1]).run Tryz.prog w1 = .ok v' w' ∧ RowG w2 sv n m w1 w' ∧ RowOk w2 sv n ms m v' w' := by
  obtain ⟨i, hi, hz, hs1, hby⟩ := info_parts mv_info
  have hnews : ∀ (j : Nat) u, (mvCells m)[j]? = some u → w1.cell? ((⟨g, 0, none⟩ : Addr).add j) = some u := fun j u hu => by
    rw [Addr.add_lit]
    rcases j with _ | _ | _ | j
    · simp [mvCells] at hu; subst hu; exact c0
    · simp [mvCells] at hu; subst hu; exact c1
    · simp [mvCells] at hu; subst hu; exact c2
    · simp [mvCells] at hu
  by_cases hroom : ∃ k, RowR sv n k
  · obtain ⟨k, cap, rfl, hc⟩ := hroom
    rcases hr.2 with ⟨e, _⟩ | ⟨k', cap', cur, e, _, hh, hcn, hm, hs, ht⟩
    · cases e
    · injection e with e1 e2 e3
      injection e1 with e1
      injection e1 with e1
      subst e1
      subst e3
      have hsz : n * 3 + 3 ≤ cur.size := by rw [hs]; omega
      have hcur : ∃ cur1, w1.heap[k]? = some (.cells cur1 142 (0, 0)) ∧ updRow n m cur1 = updRow n m cur ∧ cur1.size = cur.size := by
        rcases hG.row k cur ⟨cap, rfl, hc⟩ hh with e | e
        · exact ⟨cur, e.trans hh, rfl, rfl⟩
        · exact ⟨_, e, updRow_idem hsz, updRow_size hsz⟩
      obtain ⟨cur1, hh1, hu1, hz1⟩ := hcur
      have hrun := run_append_room (P := Tryz.prog) w1 124 ty 142 i Tryz.underlying124 hi k n cap cur1 hh1 ⟨g, 0, none⟩ 1 1 (mvCells m) (by rw [hs1]; rfl) hnews (mvCells_one m) hc (by rw [hs1]; show n * 3 + 3 ≤ _; omega)
      have hcl : (cur1.toList.take (n * i.size) ++ mvCells m ++ cur1.toList.drop (n * i.size + (mvCells m).length)).toArray = updRow n m cur := by rw [hs1, ← hu1]; rfl
      rw [hcl] at hrun
      have hnew := setRow_heap w1 k cur1 (updRow n m cur) 142 (0, 0) hh1
      refine ⟨_, _, hrun, ⟨⟨rfl, rfl, rfl, by simp, fun x hx hn => setRow_other w1 k x _ (fun e => hn (by subst e; exact ⟨cap, rfl, hc⟩))⟩, fun x cur0 hx hc0 => ?_⟩, .inl ⟨k, cap, cur, rfl, hc, rfl, hh, hnew⟩⟩
      obtain ⟨cap2, e, _⟩ := hx
      injection e with e _ _
      injection e with e
      injection e with e
      subst e
      rw [hh] at hc0
      injection hc0 with hc0
      injection hc0 with hc0 _ _
      subst hc0
      exact .inr hnew
  · have hown1 : w1.ownsRow 0 142 3 sv n (ms.flatMap mvCells) := ownsRow_same hr fun g hg => hG.chg.block g (hr.lt g hg).2 (fun h => hroom ⟨g, h⟩)
    obtain ⟨v', w', hrun, hown', hgr, _, h5⟩ := run_append_own_at (P := Tryz.prog) w1 0 124 ty 142 i _ 3 40 Tryz.underlying124 hi hz hs1 hby rfl (by omega) sv n (ms.flatMap mvCells) hown1 ⟨g, 0, none⟩ 1 1 (mvCells m) rfl hnews (mvCells_one m) (by simp only [maxLen]; omega) (by omega) (Nat.zero_le _)
    have hnew : v'.ownBlock = some w1.heap.size ∧ w1.grownBy w' none := by
      rcases hown1.2 with ⟨rfl, _⟩ | ⟨k, cap, cur, rfl, _, hh, hcn, hm, hs, ht⟩
      · obtain ⟨g', c', rfl⟩ := row_succD hown'
        rcases h5 with h5 | h5
        · cases h5
        · exact ⟨h5, hgr⟩
      · have hcap : ¬ n + 1 ≤ cap := fun h => hroom ⟨k, cap, rfl, h⟩
        have hr2 := run_append_grow (P := Tryz.prog) w1 124 ty 142 i _ Tryz.underlying124 hi hz ⟨k, 0, none⟩ n cap (ms.flatMap mvCells) (by rw [hs1]; exact hown1.1) (hown1.cells (g := k) rfl) ⟨g, 0, none⟩ 1 1 (mvCells m) (by rw [hs1]; rfl) hnews (by omega) (by omega) (growslice_fits (by omega) (by rw [hby]; omega))
        have he := hrun.symm.trans hr2
        injection he with hv hw
        subst hw
        refine ⟨by rw [hv]; rfl, ⟨rfl, rfl, rfl, by simp, fun x hx _ => Below.heap_alloc w1.drew _ x hx⟩⟩
    refine ⟨v', w', hrun, ⟨Chg.of_grown hnew.2 (fun k e => by cases e), fun k _ hk => absurd ⟨k, hk⟩ hroom⟩, .inr ⟨w1.heap.size, hG.chg.size, hnew.1, ?_, fun h => hroom ⟨_, h⟩⟩⟩
    rw [List.flatMap_append]
    simpa using hown'
end Go.Proofs.YtfdppggdgdnnaaaGreatDoor
