/-
  A disk as plain data: files, the names that lead to them, the names as they were synced, the moves since; what each call makes of it.
  A disk in memory: what lies where; what a call leaves of all else.
  What stands ahead of a disk's calls: the power, the file of a name, whether a name may be.
  A disk's maps of names: looked up, stored into, struck from, at the operation; and whether a name may be.
  The file of a name; what is ahead of a call that changes a file; the first bytes of a file kept.
  One file of a disk is turned; its first bytes kept.
  The calls of a disk that change a file: Sync, Cut, Append.
  A move is done within a map of names.
-/
import Derived.Test.YtcmgppacipdnaaaGreatDoorRows
import Derived.Test.YtcmgppacipdnaaaGreatDoorQTable
import Derived.Maps.OwnSet
import Derived.Maps.RangeWalk
import Derived.Sort.KeysCollected
import Derived.Maps.OwnIn
import Derived.Deep.QuietTactic
import Derived.BigQuiet
import Derived.Deep.Cut
namespace Go.Proofs.YtcmgppacipdnaaaGreatDoor.Dk

/-- A name, as its bytes. -/
abbrev Nm := List UInt8
/-- Which file a name leads to. -/
abbrev Dir := Nm → Option Nat
def upd (f : Dir) (k : Nm) (v : Option Nat) : Dir := fun x => if x = k then v else f x
theorem upd_same (f : Dir) (k : Nm) (v : Option Nat) : upd f k v k = v := by simp [upd]
theorem upd_other (f : Dir) (k x : Nm) (v : Option Nat) (h : x ≠ k) : upd f k v x = f x := by simp [upd, h]

structure File where
  born : Int
  bytes : List UInt8
  synced : Nat
deriving Inhabited

structure Mv where
  frm : Nm
  «to» : Nm
  file : Option Nat
deriving Inhabited

def Mv.on (m : Mv) (f : Dir) : Dir :=
  if m.«to» = [] then (if m.frm = [] then f else upd f m.frm none) else upd (if m.frm = [] then f else upd f m.frm none) m.«to» m.file
def ons (ms : List Mv) (f : Dir) : Dir := ms.foldl (fun g m => m.on g) f
theorem ons_snoc (ms : List Mv) (m : Mv) (f : Dir) : ons (ms ++ [m]) f = m.on (ons ms f) := by simp [ons]

structure St where
  room : Int
  names : Dir
  dur : Dir
  since : List Mv
  used : Int
  calls : Int
  armed : Int
  down : Bool
  files : Nat → File

def St.setFile (s : St) (i : Nat) (f : File) : St := { s with files := fun k => if k = i then f else s.files k }
theorem setFile_same (s : St) (i : Nat) (f : File) : (s.setFile i f).files i = f := by simp [St.setFile]
theorem setFile_other (s : St) (i k : Nat) (f : File) (h : k ≠ i) : (s.setFile i f).files k = s.files k := by simp [St.setFile, h]

/-- A disk as New makes it. -/
def St.new (room : Int) : St := { room := room, names := fun _ => none, dur := fun _ => none, since := [], used := 0, calls := 0, armed := 0, down := false, files := fun _ => default }

/-- What stands ahead of a call that changes. -/
def St.begin (s : St) : St := if 0 < s.armed then { s with armed := s.armed - 1, down := s.down || decide (s.armed - 1 = 0) } else s

def okByte (c : UInt8) : Bool := (97 ≤ c && c ≤ 122) || (48 ≤ c && c ≤ 57) || c == 46 || c == 45 || c == 95
def valid (n : Nm) : Bool := decide (1 ≤ n.length) && decide (n.length ≤ 64) && n.all okByte

/-- A move is done, and kept. -/
def St.doMove (s : St) (m : Mv) : St := { s with names := m.on s.names, since := s.since ++ [m], calls := s.calls + 1 }
/-- The first n moves are made durable. -/
def St.settle (s : St) (n : Nat) : St := { s with dur := ons (s.since.take n) s.dur, since := [] }
def File.keep (f : File) (n : Nat) : File := { f with bytes := f.bytes.take n, synced := n }

/-- How a call ends: which error (its number among the package's), and the disk. -/
abbrev End := Option Nat × St

def St.find (s : St) (name : Nm) : Option Nat × Option Nat :=
  if s.down then (some 9, none) else match s.names name with | none => (some 6, none) | some i => (none, some i)

def St.create (s : St) (name : Nm) (id : Nat) : End :=
  if s.begin.down then (some 9, s.begin)
  else if valid name = false then (some 5, s.begin)
  else if s.begin.names name ≠ none then (some 7, s.begin)
  else (none, (s.begin.setFile id ⟨s.begin.calls, [], 0⟩).doMove ⟨[], name, some id⟩)

def St.append (s : St) (name : Nm) (b : List UInt8) : End :=
  match s.begin.find name with
  | (some j, _) => (some j, s.begin)
  | (none, none) => (none, s.begin)
  | (none, some i) =>
    if s.begin.room - s.begin.used < b.length then (some 8, s.begin)
    else (none, { s.begin.setFile i { s.begin.files i with bytes := (s.begin.files i).bytes ++ b } with used := s.begin.used + b.length, calls := s.begin.calls + 1 })

def St.cut (s : St) (name : Nm) (n : Int) : End :=
  match s.begin.find name with
  | (some j, _) => (some j, s.begin)
  | (none, none) => (none, s.begin)
  | (none, some i) =>
    if n < 0 ∨ ((s.begin.files i).bytes.length : Int) < n then (some 4, s.begin)
    else (none, { s.begin.setFile i ((s.begin.files i).keep n.toNat) with used := s.begin.used - (((s.begin.files i).bytes.length : Int) - n), calls := s.begin.calls + 1 })

def St.sync (s : St) (name : Nm) : End :=
  match s.begin.find name with
  | (some j, _) => (some j, s.begin)
  | (none, none) => (none, s.begin)
  | (none, some i) => (none, { s.begin.setFile i ((s.begin.files i).keep (s.begin.files i).bytes.length) with calls := s.begin.calls + 1 })

def St.rename (s : St) (frm «to» : Nm) : End :=
  match s.begin.find frm with
  | (some j, _) => (some j, s.begin)
  | (none, none) => (none, s.begin)
  | (none, some i) =>
    if valid «to» = false then (some 5, s.begin)
    else
      let u := match s.begin.names «to» with
        | none => s.begin.used
        | some o => if o = i then s.begin.used else s.begin.used - (s.begin.files o).bytes.length
      (none, { s.begin with used := u }.doMove ⟨frm, «to», some i⟩)

def St.syncDir (s : St) : End :=
  if s.begin.down then (some 9, s.begin) else (none, { s.begin.settle s.begin.since.length with calls := s.begin.calls + 1 })

end Go.Proofs.YtcmgppacipdnaaaGreatDoor.Dk

namespace Go.Proofs.YtcmgppacipdnaaaGreatDoor
open Go.RowKit Go.Maps

/-- Blocks of which S does not hold lie as they lay. -/
structure Chg (S : Nat → Prop) (w w' : World) : Prop where
  os : w'.os = w.os
  tape : w'.tape = w.tape
  output : w'.output = w.output
  size : w.heap.size ≤ w'.heap.size
  block : ∀ k, k < w.heap.size → ¬ S k → w'.heap[k]? = w.heap[k]?
/-- S, and what is new since. -/
def Up (S : Nat → Prop) (w w' : World) : Nat → Prop := fun k => S k ∨ (w.heap.size ≤ k ∧ k < w'.heap.size)
theorem Chg.refl (S : Nat → Prop) (w : World) : Chg S w w := ⟨rfl, rfl, rfl, Nat.le_refl _, fun _ _ _ => rfl⟩
theorem Chg.trans {S T : Nat → Prop} {a b c : World} (h : Chg S a b) (k : Chg T b c) (hT : ∀ i, i < a.heap.size → T i → S i) : Chg S a c :=
  ⟨k.os.trans h.os, k.tape.trans h.tape, k.output.trans h.output, Nat.le_trans h.size k.size, fun i hi hn => (k.block i (Nat.lt_of_lt_of_le hi h.size) (fun t => hn (hT i hi t))).trans (h.block i hi hn)⟩
theorem Chg.up {S : Nat → Prop} {a b c : World} (h : Chg S a b) (k : Chg (Up S a b) b c) : Chg S a c := h.trans k fun i hi t => by rcases t with t | t; exact t; omega
theorem Chg.then {S : Nat → Prop} {a b c : World} (h : Chg S a b) (k : Chg S b c) : Chg S a c := h.trans k fun _ _ t => t
theorem Chg.mono {S T : Nat → Prop} {a b : World} (h : Chg S a b) (hT : ∀ i, S i → T i) : Chg T a b := ⟨h.os, h.tape, h.output, h.size, fun k hk hn => h.block k hk fun s => hn (hT k s)⟩
theorem Chg.of_below {S : Nat → Prop} {w w' : World} (h : Below w.heap.size w w') : Chg S w w' := ⟨h.os, h.tape, h.output, h.size, fun k hk _ => h.block k hk⟩
theorem Chg.of_grown {S : Nat → Prop} {w w' : World} {row : Option Nat} (h : w.grownBy w' row) (hr : ∀ k, row = some k → S k) : Chg S w w' :=
  ⟨h.os, h.tape, h.output, h.size, fun k hk hn => h.block k hk fun e => hn (hr k e.symm)⟩
theorem Chg.setCell {S : Nat → Prop} (w : World) (g i : Nat) (v : Value) (hS : S g) : Chg S w (w.setCell ⟨g, i, none⟩ v) :=
  ⟨rfl, rfl, rfl, by simp, fun k _ hn => Below.heap_setCell _ _ _ _ (by intro e; subst e; exact hn hS)⟩
theorem Chg.below {S : Nat → Prop} {w w' : World} {C : Nat} (h : Chg S w w') (hC : C ≤ w.heap.size) (hS : ∀ k, S k → C ≤ k) : Below C w w' :=
  ⟨h.os, h.tape, h.output, h.size, fun k hk => h.block k (by omega) fun s => by have := hS k s; omega⟩
theorem Chg.cell {S : Nat → Prop} {w w' : World} (h : Chg S w w') {b o : Nat} {v : Value} (hc : w.cell? ⟨b, o, none⟩ = some v) (hn : ¬ S b) : w'.cell? ⟨b, o, none⟩ = some v := by
  have hb := h.block b (World.block_lt_of_cell? w _ hc) hn
  simpa [World.cell?, hb] using hc
theorem up_self {S : Nat → Prop} {a b : World} : ∀ k, S k → Up S a b k := fun _ h => .inl h
theorem up_up {S : Nat → Prop} {a b c : World} (h1 : a.heap.size ≤ b.heap.size) (h2 : b.heap.size ≤ c.heap.size) : ∀ k, Up (Up S a b) b c k → Up S a c k := by
  rintro k ((h | h) | h)
  · exact .inl h
  · exact .inr (by omega)
  · exact .inr (by omega)

/-- A pointer to a file, as a map's element. -/
def ptrE (v : Value) : Option (DataW Unit × List MemPlace) :=
  match v with
  | .pointer none => some (.lit (.int .i64 (-1)), [])
  | .pointer (some ⟨b, 0, none⟩) => some (.lit (.int .i64 b), [])
  | _ => none
def fileV : Option Nat → Value
  | none => .pointer none
  | some i => .pointer (some ⟨i, 0, none⟩)
def fileD : Option Nat → DataW Unit → DataW Unit
  | none, z => z
  | some i, _ => .lit (.int .i64 (i : Int))
theorem ptrE_file (i : Nat) : ptrE (fileV (some i)) = some (.lit (.int .i64 (i : Int)), []) := rfl
theorem ptrE_nil : ptrE (.pointer none) = some (.lit (.int .i64 (-1)), []) := rfl
/-- What reads so is that file's pointer. -/
theorem ptrE_inv {v : Value} {f : Option Nat} {ps : List MemPlace} (h : ptrE v = some (fileD f (.lit (.int .i64 (-1))), ps)) : v = fileV f := by
  unfold ptrE at h
  split at h
  · cases f with
    | none => rfl
    | some i => simp [fileD] at h <;> omega
  · rename_i b
    cases f with
    | none => simp [fileD] at h <;> omega
    | some i =>
      simp [fileD] at h
      obtain ⟨h, _⟩ := h
      have : b = i := by omega
      subst this
      rfl
  · cases h

/-- A map from names to files. -/
structure NamesAt (w : World) (b n : Nat) (f : Dk.Dir) : Prop where
  ex : ∃ D, w.ownsMap Tryz.prog 9 ptrE b n D ∧ ∀ k zd, D.atKey (.string k) zd = fileD (f k) zd
theorem str_law : Keyed Tryz.prog 9 := string_keyed Tryz.underlying9
theorem NamesAt.mono {w : World} {b n m : Nat} {f : Dk.Dir} (h : NamesAt w b n f) (hm : n ≤ m) : NamesAt w b m f := by
  obtain ⟨D, h1, h2⟩ := h.ex; exact ⟨D, h1.mono hm, h2⟩
theorem NamesAt.lt {w : World} {b n : Nat} {f : Dk.Dir} (h : NamesAt w b n f) : b < w.heap.size := by
  obtain ⟨D, h1, _⟩ := h.ex; exact h1.lt
theorem NamesAt.same {w w' : World} {b n : Nat} {f : Dk.Dir} (h : NamesAt w b n f) (hb : w'.heap[b]? = w.heap[b]?) : NamesAt w' b n f := by
  obtain ⟨D, ⟨es, clock, h1, h3⟩, h2⟩ := h.ex
  exact ⟨D, ⟨es, clock, hb.trans h1, h3⟩, h2⟩
theorem NamesAt.made (w : World) : NamesAt (w.alloc (.map #[] 0)) w.heap.size 0 (fun _ => none) :=
  ⟨.map [], World.ownsMap_made _ _ _ _, fun k zd => by simp [DataW.atKey, fileD]⟩
end Go.Proofs.YtcmgppacipdnaaaGreatDoor
namespace Go.Proofs.YtcmgppacipdnaaaGreatDoor
open Go.RowKit Go.Maps

def mvCells (m : Dk.Mv) : List Value := [encStr m.frm, encStr m.«to», fileV m.file]
def diskCells (s : Dk.St) (nb db : Nat) (sv : Value) : Array Value :=
  #[.int .i64 s.room, .map (some nb), .map (some db), sv, .int .i64 s.used, .int .i64 s.calls, .int .i64 s.armed, .bool s.down]

/-- A file at its block, its bytes in the row that v tells. -/
structure FileAt (w : World) (i : Nat) (v : Value) (f : Dk.File) : Prop where
  box : w.heap[i]? = some (.cells #[.int .i64 f.born, v, .int .i64 (f.synced : Int)] 110 (0, 0))
  row : Own w 0 v f.bytes
  sync : f.synced ≤ f.bytes.length

/-- A disk, with where each of its parts lies; S holds of all its blocks. -/
structure DiskL (w : World) (Bd nb db : Nat) (sv : Value) (ids : List Nat) (row : Nat → Value) (s : Dk.St) (S : Nat → Prop) : Prop where
  box : w.heap[Bd]? = some (.cells (diskCells s nb db sv) 100 (0, 0))
  names : NamesAt w nb s.calls.toNat s.names
  dur : ∃ m, NamesAt w db m s.dur ∧ m + s.since.length ≤ s.calls.toNat
  ne : nb ≠ db
  since : w.ownsRow 0 157 3 sv s.since.length (s.since.flatMap mvCells)
  nodup : ids.Nodup
  file : ∀ i ∈ ids, FileAt w i (row i) (s.files i)
  apart : ∀ i ∈ ids, ∀ j ∈ ids, i ≠ j → ∀ g, (row i).ownBlock = some g → (row j).ownBlock ≠ some g
  nref : ∀ k i, s.names k = some i → i ∈ ids ∧ k ≠ [] ∧ k.length ≤ 64
  dref : ∀ k i, s.dur k = some i → i ∈ ids ∧ k ≠ [] ∧ k.length ≤ 64
  sref : ∀ m ∈ s.since, (∀ i, m.file = some i → i ∈ ids) ∧ (m.«to» ≠ [] → m.file ≠ none) ∧ m.frm.length ≤ 64 ∧ m.«to».length ≤ 64
  calls : 0 ≤ s.calls
  mBd : S Bd
  mnb : S nb
  mdb : S db
  msv : ∀ g, sv.ownBlock = some g → S g
  mid : ∀ i ∈ ids, S i
  mrow : ∀ i ∈ ids, ∀ g, (row i).ownBlock = some g → S g
/-- A disk whose blocks are S's. -/
def IsDisk (w : World) (Bd : Nat) (s : Dk.St) (S : Nat → Prop) : Prop := ∃ nb db sv ids row, DiskL w Bd nb db sv ids row s S

theorem ownsRow_same {w w' : World} {base : Nat} {e : TypeId} {size : Nat} {v : Value} {n : Nat} {xs : List Value} (h : w.ownsRow base e size v n xs) (hb : ∀ g, v.ownBlock = some g → w'.heap[g]? = w.heap[g]?) : w'.ownsRow base e size v n xs := by
  refine ⟨h.1, ?_⟩
  rcases h.2 with h2 | ⟨g, cap, cur, rfl, hg, hh, r⟩
  · exact .inl h2
  · exact .inr ⟨g, cap, cur, rfl, hg, (hb g rfl).trans hh, r⟩
theorem FileAt.same {w w' : World} {i : Nat} {v : Value} {f : Dk.File} (h : FileAt w i v f) (hi : w'.heap[i]? = w.heap[i]?) (hb : ∀ g, v.ownBlock = some g → w'.heap[g]? = w.heap[g]?) : FileAt w' i v f :=
  ⟨hi.trans h.box, ownsRow_same h.row hb, h.sync⟩
theorem DiskL.kept {w w' : World} {Bd nb db : Nat} {sv : Value} {ids : List Nat} {row : Nat → Value} {s : Dk.St} {S : Nat → Prop} (h : DiskL w Bd nb db sv ids row s S) (hk : ∀ k, S k → k < w.heap.size → w'.heap[k]? = w.heap[k]?) : DiskL w' Bd nb db sv ids row s S := by
  have lt : ∀ {k : Nat} {o : Obj}, w.heap[k]? = some o → k < w.heap.size := fun h => (Array.getElem?_eq_some_iff.1 h).1
  obtain ⟨m, hd, hm⟩ := h.dur
  refine { h with box := (hk _ h.mBd (lt h.box)).trans h.box, names := h.names.same (hk _ h.mnb h.names.lt), dur := ⟨m, hd.same (hk _ h.mdb hd.lt), hm⟩, since := ownsRow_same h.since fun g hg => hk _ (h.msv g hg) (h.since.lt g hg).2, file := fun i hi => ?_ }
  exact (h.file i hi).same (hk _ (h.mid i hi) (lt (h.file i hi).box)) fun g hg => hk _ (h.mrow i hi g hg) ((h.file i hi).row.lt g hg).2
theorem DiskL.mono {w : World} {Bd nb db : Nat} {sv : Value} {ids : List Nat} {row : Nat → Value} {s : Dk.St} {S T : Nat → Prop} (h : DiskL w Bd nb db sv ids row s S) (hT : ∀ k, S k → T k) : DiskL w Bd nb db sv ids row s T :=
  { h with mBd := hT _ h.mBd, mnb := hT _ h.mnb, mdb := hT _ h.mdb, msv := fun g hg => hT _ (h.msv g hg), mid := fun i hi => hT _ (h.mid i hi), mrow := fun i hi g hg => hT _ (h.mrow i hi g hg) }
theorem IsDisk.kept {w w' : World} {Bd : Nat} {s : Dk.St} {S : Nat → Prop} (h : IsDisk w Bd s S) (hk : ∀ k, S k → k < w.heap.size → w'.heap[k]? = w.heap[k]?) : IsDisk w' Bd s S := by
  obtain ⟨nb, db, sv, ids, row, h⟩ := h; exact ⟨nb, db, sv, ids, row, h.kept hk⟩
theorem IsDisk.below {w w' : World} {Bd : Nat} {s : Dk.St} {S : Nat → Prop} (h : IsDisk w Bd s S) (hb : Below w.heap.size w w') : IsDisk w' Bd s S := h.kept fun k _ hk => hb.block k hk
theorem IsDisk.mono {w : World} {Bd : Nat} {s : Dk.St} {S T : Nat → Prop} (h : IsDisk w Bd s S) (hT : ∀ k, S k → T k) : IsDisk w Bd s T := by
  obtain ⟨nb, db, sv, ids, row, h⟩ := h; exact ⟨nb, db, sv, ids, row, h.mono hT⟩

/-- The disk's own box is written. -/
theorem DiskL.set {w : World} {Bd nb db : Nat} {sv : Value} {ids : List Nat} {row : Nat → Value} {s : Dk.St} {S : Nat → Prop} (h : DiskL w Bd nb db sv ids row s S) (i : Nat) (v : Value) (s' : Dk.St) (hc : (diskCells s nb db sv).setIfInBounds i v = diskCells s' nb db sv)
    (hn : s'.names = s.names) (hd : s'.dur = s.dur) (hs : s'.since = s.since) (hf : s'.files = s.files) (hl : s.calls ≤ s'.calls) : DiskL (w.setCell ⟨Bd, i, none⟩ v) Bd nb db sv ids row s' S := by
  have hoth : ∀ k, k ≠ Bd → (w.setCell ⟨Bd, i, none⟩ v).heap[k]? = w.heap[k]? := fun k hk => Below.heap_setCell _ _ _ _ hk
  have hcl := h.calls
  obtain ⟨m, hdn, hm⟩ := h.dur
  have n1 : nb ≠ Bd := by
    obtain ⟨D, ⟨es, clock, h1, _⟩, _⟩ := h.names.ex
    intro e; subst e; rw [h.box] at h1; cases h1
  have n2 : db ≠ Bd := by
    obtain ⟨D, ⟨es, clock, h1, _⟩, _⟩ := hdn.ex
    intro e; subst e; rw [h.box] at h1; cases h1
  have tne1 : 157 ≠ 100 := by decide
  have tne2 : 110 ≠ 100 := by decide
  have tne3 : 5 ≠ 100 := by decide
  have n3 : ∀ g, sv.ownBlock = some g → g ≠ Bd := by
    intro g hg e
    subst e
    rcases h.since.2 with ⟨e, _⟩ | ⟨g', cap, cur, e, _, hh, _⟩
    · rw [e] at hg; cases hg
    · rw [e] at hg; injection hg with hg; subst hg
      have := h.box.symm.trans hh
      injection this with this; injection this with _ this _; exact tne1 this.symm
  have n4 : ∀ j ∈ ids, j ≠ Bd := by
    intro j hj e
    subst e
    have := h.box.symm.trans (h.file j hj).box
    injection this with this; injection this with _ this _; exact tne2 this.symm
  have n5 : ∀ j ∈ ids, ∀ g, (row j).ownBlock = some g → g ≠ Bd := by
    intro j hj g hg e
    subst e
    rcases (h.file j hj).row.2 with ⟨e, _⟩ | ⟨g', cap, cur, e, _, hh, _⟩
    · rw [e] at hg; cases hg
    · rw [e] at hg; injection hg with hg; subst hg
      have := h.box.symm.trans hh
      injection this with this; injection this with _ this _; exact tne3 this.symm
  have hbx := heap_setCell_same w Bd i _ _ v h.box
  refine { box := (by rw [hbx, ← hc]), names := ?_, dur := ⟨m, (by rw [hd]; exact hdn.same (hoth _ n2)), (by rw [hs]; omega)⟩, ne := h.ne, since := (by rw [hs]; exact ownsRow_same h.since fun g hg => hoth _ (n3 g hg)), nodup := h.nodup, file := fun j hj => (by rw [hf]; exact (h.file j hj).same (hoth _ (n4 j hj)) fun g hg => hoth _ (n5 j hj g hg)), apart := h.apart, nref := (by rw [hn]; exact h.nref), dref := (by rw [hd]; exact h.dref), sref := (by rw [hs]; exact h.sref), calls := (by omega), mBd := h.mBd, mnb := h.mnb, mdb := h.mdb, msv := h.msv, mid := h.mid, mrow := h.mrow }
  rw [hn]; exact (h.names.same (hoth _ n1)).mono (by omega)
end Go.Proofs.YtcmgppacipdnaaaGreatDoor

namespace Go.Proofs.YtcmgppacipdnaaaGreatDoor
open Go.RowKit Go.Maps

/-- An error that is nil, or one of the package's. -/
def errR (p : Nat → Addr) : Option Nat → Value
  | none => .nilIface
  | some j => errV (p j)
/-- The errors that a disk tells. -/
abbrev SentsD (w : World) (p : Nat → Addr) : Prop := SentsOn (fun j => 4 ≤ j ∧ j ≤ 9) w p
theorem SentsD.c9 {w : World} {p : Nat → Addr} (h : SentsD w p) : w.cell? ⟨7, 0, none⟩ = some (errV (p 9)) := h.cell 9 (by omega)
theorem SentsD.c8 {w : World} {p : Nat → Addr} (h : SentsD w p) : w.cell? ⟨6, 0, none⟩ = some (errV (p 8)) := h.cell 8 (by omega)
theorem SentsD.c7 {w : World} {p : Nat → Addr} (h : SentsD w p) : w.cell? ⟨11, 0, none⟩ = some (errV (p 7)) := h.cell 7 (by omega)
theorem SentsD.c6 {w : World} {p : Nat → Addr} (h : SentsD w p) : w.cell? ⟨1, 0, none⟩ = some (errV (p 6)) := h.cell 6 (by omega)
theorem SentsD.c5 {w : World} {p : Nat → Addr} (h : SentsD w p) : w.cell? ⟨10, 0, none⟩ = some (errV (p 5)) := h.cell 5 (by omega)
theorem SentsD.c4 {w : World} {p : Nat → Addr} (h : SentsD w p) : w.cell? ⟨3, 0, none⟩ = some (errV (p 4)) := h.cell 4 (by omega)

theorem box_cell {w : World} {b : Nat} {c : Array Value} {t : TypeId} {fz : Nat × Nat} (h : w.heap[b]? = some (.cells c t fz)) (k : Nat) : w.cell? ⟨b, k, none⟩ = c[k]? := by simp [World.cell?, h]
theorem box_free {w : World} {b : Nat} {c : Array Value} {t : TypeId} (h : w.heap[b]? = some (.cells c t (0, 0))) (k : Nat) : w.frozen? ⟨b, k, none⟩ = false := by simp [World.frozen?, h]

theorem begin_set {w : World} {Bd nb db : Nat} {sv : Value} {ids : List Nat} {row : Nat → Value} {s : Dk.St} {S : Nat → Prop} (h : DiskL w Bd nb db sv ids row s S) (a : Int) (d : Bool) :
    DiskL ((w.setCell ⟨Bd, 6, none⟩ (.int .i64 a)).setCell ⟨Bd, 7, none⟩ (.bool d)) Bd nb db sv ids row { s with armed := a, down := d } S :=
  (h.set 6 (.int .i64 a) { s with armed := a } rfl rfl rfl rfl rfl (Int.le_refl _)).set 7 (.bool d) { s with armed := a, down := d } rfl rfl rfl rfl rfl (Int.le_refl _)

set_option maxRecDepth 100000 in
theorem begin_any (Bd nb db : Nat) (sv : Value) (ids : List Nat) (row : Nat → Value) (s : Dk.St) (S : Nat → Prop) (p : Nat → Addr) (w : World) (hs : SentsD w p) (h : DiskL w Bd nb db sv ids row s S) (ha : -9223372036854775808 ≤ s.armed ∧ s.armed ≤ 9223372036854775807) (_hB : Bd ≠ 7) :
    Calls Tryz.prog 164 #[.pointer (some ⟨Bd, 0, none⟩)] w fun e w' => e = .returned (errR p (if s.begin.down then some 9 else none)) ∧ DiskL w' Bd nb db sv ids row s.begin S ∧ Chg (fun k => k = Bd) w w' ∧ w'.heap.size = w.heap.size := by
  have c6 : w.cell? ⟨Bd, 6, none⟩ = some (.int .i64 s.armed) := box_cell h.box 6
  have c7 : w.cell? ⟨Bd, 7, none⟩ = some (.bool s.down) := box_cell h.box 7
  have f6 := box_free h.box 6
  have f7 := box_free h.box 7
  have g9 := hs.c9
  have HH := hide h
  obtain ⟨t, ht⟩ : ∃ t, t = s.begin := ⟨_, rfl⟩
  obtain ⟨r, hr⟩ : ∃ r : Option Nat, r = (if s.begin.down then some 9 else none) := ⟨_, rfl⟩
  rw [← hr, ← ht]
  have HT := hide ht
  have HR := hide hr
  clear h hs ht hr
  obtain ⟨room, names, dur, since, used, calls, armed, down, files⟩ := s
  simp only at c6 c7 ha
  have key : ∀ a d, t = { room, names, dur, since, used, calls, armed := a, down := d, files } → DiskL ((w.setCell ⟨Bd, 6, none⟩ (.int .i64 a)).setCell ⟨Bd, 7, none⟩ (.bool d)) Bd nb db sv ids row t S ∧ Chg (fun k => k = Bd) w ((w.setCell ⟨Bd, 6, none⟩ (.int .i64 a)).setCell ⟨Bd, 7, none⟩ (.bool d)) ∧ ((w.setCell ⟨Bd, 6, none⟩ (.int .i64 a)).setCell ⟨Bd, 7, none⟩ (.bool d)).heap.size = w.heap.size := fun a d e => by
    rw [e]
    exact ⟨begin_set HH.out a d, (Chg.setCell (S := fun k => k = Bd) w Bd 6 _ rfl).then (Chg.setCell (S := fun k => k = Bd) _ Bd 7 _ rfl), by simp⟩
  have KEY := hide key
  clear key
  by_cases h0 : 0 < armed
  · have hw : IntKind.i64.wrap (armed - 1) = armed - 1 := IntWalk.i64_in _ (by omega)
    cases down <;> by_cases h1 : armed - 1 = 0
    all_goals
      go_enter Tryz.func164, Tryz.ntmps164
      go_wp2_with fail
      go_ret
      exact ⟨by rw [HR.out]; simp [Dk.St.begin, h0, h1, errR], KEY.out _ _ (by rw [HT.out]; simp [Dk.St.begin, h0, h1])⟩
  · have key : t = { room, names, dur, since, used, calls, armed, down, files } := by rw [HT.out]; simp [Dk.St.begin, h0]
    have key2 : r = if down then some 9 else none := by rw [HR.out]; simp [Dk.St.begin, h0]
    have HK := hide key
    have HK2 := hide key2
    clear key key2
    cases down
    all_goals
      go_enter Tryz.func164, Tryz.ntmps164
      go_wp2_with fail
      go_ret
      exact ⟨by rw [HK2.out]; simp [errR], by rw [HK.out]; exact HH.out, Chg.refl _ _, rfl⟩
end Go.Proofs.YtcmgppacipdnaaaGreatDoor

namespace Go.Proofs.YtcmgppacipdnaaaGreatDoor
open Go.RowKit Go.Maps Go.ChangeMaps Go.MapKept

theorem zero_file (w : World) : (zeroValue 106).run Tryz.prog w = .ok (.pointer none) w := by kernel_rfl
theorem str_key {k : Dk.Nm} (hk : k.length ≤ 9223372036854775807) : keyOf Tryz.prog 9 (encStr k) = some (.string k) := by
  have := Go.WideMaps.keyOf_string_mk (P := Tryz.prog) Tryz.underlying9 (s := ⟨k.toArray⟩) (by simpa [maxLen, ByteArray.size] using hk)
  simpa using this
/-- m[k] -/
theorem NamesAt.look {w : World} {b n : Nat} {f : Dk.Dir} (h : NamesAt w b n f) (k : Dk.Nm) (hk : k.length ≤ 9223372036854775807) :
    (Instr.lookup 97 (.map (some b)) (encStr k) false).run Tryz.prog w = .ok (fileV (f k)) w := by
  obtain ⟨D, h1, h2⟩ := h.ex
  obtain ⟨v, ps, hrun, hv⟩ := h1.lookup str_law Tryz.underlying97 (zero_file w) ptrE_nil (str_key hk)
  rw [h2] at hv
  rw [hrun, ptrE_inv hv]
/-- m[k] = file i -/
theorem NamesAt.put {w : World} {b n : Nat} {f : Dk.Dir} (h : NamesAt w b n f) (k : Dk.Nm) (i : Nat) (hk : k.length ≤ 9223372036854775807) (hn : n < 9223372036854775807) :
    ∃ w', (Instr.mapUpdate 97 (.map (some b)) (encStr k) (fileV (some i))).run Tryz.prog w = .ok () w' ∧ NamesAt w' b (n + 1) (Dk.upd f k (some i)) ∧ w.grownBy w' (some b) ∧ w'.heap.size = w.heap.size := by
  obtain ⟨D, h1, h2⟩ := h.ex
  obtain ⟨w', hrun, hown, ht⟩ := h1.store str_law Tryz.underlying97 (by simp only [maxLen]; omega) (str_key hk) (ptrE_file i)
  refine ⟨w', hrun, ⟨_, hown, fun x zd => ?_⟩, ht.grown, ?_⟩
  · by_cases e : x = k
    · subst e; rw [atKey_put_same h1.isMap (str_law.key (str_key hk)), Dk.upd_same]; rfl
    · rw [atKey_put_other (by simpa using e), h2, Dk.upd_other _ _ _ _ e]
  · obtain ⟨_, _, _, _, _, rfl⟩ := ht; simp [setBlock]
/-- delete(m, k) -/
theorem NamesAt.del {w : World} {b n : Nat} {f : Dk.Dir} (h : NamesAt w b n f) (k : Dk.Nm) (hk : k.length ≤ 9223372036854775807) (ty : TypeId) :
    ∃ w', (Builtin.delete_ #[97, 9] ty #[.map (some b), encStr k]).run Tryz.prog w = .ok (.tuple #[]) w' ∧ NamesAt w' b n (Dk.upd f k none) ∧ w.grownBy w' (some b) ∧ w'.heap.size = w.heap.size := by
  obtain ⟨D, h1, h2⟩ := h.ex
  obtain ⟨w', hrun, hown, ht⟩ := h1.drop str_law Tryz.underlying97 (str_key hk) ty
  refine ⟨w', hrun, ⟨_, hown, fun x zd => ?_⟩, ht.grown, ?_⟩
  · by_cases e : x = k
    · subst e; rw [atKey_del_same, Dk.upd_same]; rfl
    · rw [atKey_del_other (by simpa using e), h2, Dk.upd_other _ _ _ _ e]
  · obtain ⟨_, _, _, _, _, rfl⟩ := ht; simp [setBlock]
end Go.Proofs.YtcmgppacipdnaaaGreatDoor
namespace Go.Proofs.YtcmgppacipdnaaaGreatDoor
open Go.RowKit

theorem str_at (k : Dk.Nm) (i : Nat) (h : i < k.length) (W : World) : (Instr.index 9 (encStr k) (.int .i64 (i : Int))).run Tryz.prog W = .ok (.int .u8 (B (k.getD i 0))) W := by
  have hg : (⟨k.toArray⟩ : ByteArray)[i]? = some k[i] := by
    rw [getElem?_pos (⟨k.toArray⟩ : ByteArray) i (by simpa [ByteArray.size] using h)]
    rfl
  simp [Instr.index, run_underlying Tryz.underlying9, asIntOf, hg, B, List.getD, h]

theorem okByte_iff (c : UInt8) : Dk.okByte c = true ↔ (97 ≤ B c ∧ B c ≤ 122) ∨ (48 ≤ B c ∧ B c ≤ 57) ∨ B c = 46 ∨ B c = 45 ∨ B c = 95 := by
  unfold Dk.okByte B
  simp [UInt8.le_iff_toNat_le, ← UInt8.toNat_inj]
  omega
theorem all_take (k : Dk.Nm) (j : Nat) (hj : j < k.length) (h : (k.take j).all Dk.okByte = true) (hb : Dk.okByte (k.getD j 0) = true) : (k.take (j + 1)).all Dk.okByte = true := by
  rw [List.take_succ_eq_append_getElem hj, List.all_append, h]
  simpa [List.getD, hj] using hb
theorem not_all (k : Dk.Nm) (j : Nat) (hj : j < k.length) (hb : Dk.okByte (k.getD j 0) ≠ true) : Dk.valid k = false := by
  have : k.all Dk.okByte = false := by
    rw [List.all_eq_false]
    exact ⟨k[j], List.getElem_mem _, by simpa [List.getD, hj] using hb⟩
  simp [Dk.valid, this]

set_option maxRecDepth 100000 in
set_option maxHeartbeats 1000000 in
theorem dValid_any (k : Dk.Nm) (hk : k.length ≤ 9223372036854775807) (w : World) :
    Calls Tryz.prog 192 #[encStr k] w fun e w' => e = .returned (.bool (Dk.valid k)) ∧ w' = w := by
  obtain ⟨r, hr⟩ : ∃ r, r = Dk.valid k := ⟨_, rfl⟩
  rw [← hr]
  have HR := hide hr
  clear hr
  have hsz : (⟨k.toArray⟩ : ByteArray).size = k.length := by simp [ByteArray.size]
  by_cases h1 : 1 ≤ k.length
  · by_cases h2 : k.length ≤ 64
    · have d1 : decide ((k.length : Int) < 1) = false := by simp; omega
      have d2 : decide ((64 : Int) < (k.length : Int)) = false := by simp; omega
      have HV : Hid (k.all Dk.okByte = true → r = true) := hide (fun h => by rw [HR.out]; simp [Dk.valid, h, h1, h2])
      have HN : Hid (∀ j, j < k.length → Dk.okByte (k.getD j 0) ≠ true → r = false) := hide (fun j hj hb => by rw [HR.out]; exact not_all k j hj hb)
      clear HR
      go_enter Tryz.func192, Tryz.ntmps192
      go_wp2_with fail
      go_loopw [15] (fun i wr => ∃ j : Nat, j ≤ k.length ∧ i = .int .i64 j ∧ wr = w ∧ (k.take j).all Dk.okByte = true) (fun i _ => k.length - (intOf i).toNat)
      case atStart => exact ⟨0, Nat.zero_le _, rfl, rfl, by simp⟩
      case round =>
        obtain ⟨j, hj, rfl, rfl, hall⟩ := hrel
        have HALL := hide hall
        clear hall
        by_cases hlt : j < k.length
        · have hat := str_at k j hlt wr
          have HT := hide (all_take k j hlt HALL.out)
          have HN2 := hide (HN.out j hlt)
          have hi := okByte_iff (k.getD j 0)
          have hx0 : 0 ≤ B (k.getD j 0) := by unfold B; omega
          generalize k.getD j 0 = c at *
          have HI := hide hi
          clear hi
          generalize hx : B c = x at *
          clear hx HN HALL
          have HY : Hid ((97 ≤ x ∧ x ≤ 122) ∨ (48 ≤ x ∧ x ≤ 57) ∨ x = 46 ∨ x = 45 ∨ x = 95 → ∃ j' : Nat, j' ≤ k.length ∧ ((j' : Int) = (j : Int) + 1) ∧ (k.take j').all Dk.okByte = true) := hide (fun h => ⟨j + 1, by omega, by omega, HT.out (HI.out.2 h)⟩)
          have HZ : Hid (¬ ((97 ≤ x ∧ x ≤ 122) ∨ (48 ≤ x ∧ x ≤ 57) ∨ x = 46 ∨ x = 45 ∨ x = 95) → r = false) := hide (fun h => HN2.out (fun e => h (HI.out.1 e)))
          clear HT HN2 HI
          by_cases a1 : 97 ≤ x
          · by_cases a2 : x ≤ 122
            · go_wp2_with fail
              obtain ⟨j', e1, e2, e3⟩ := HY.out (by omega)
              exact ⟨⟨j', e1, by rw [e2], trivial, e3⟩, by simp [intOf]; omega⟩
            · have a3 : 48 ≤ x := by omega
              have a4 : ¬ x ≤ 57 := by omega
              have a5 : (x == 46) = false := by simp; omega
              have a6 : (x == 45) = false := by simp; omega
              have a7 : (x == 95) = false := by simp; omega
              go_wp2_with fail
              go_ret
              exact ⟨by rw [HZ.out (by omega)]; rfl, rfl⟩
          · by_cases a3 : 48 ≤ x
            · by_cases a4 : x ≤ 57
              · go_wp2_with fail
                obtain ⟨j', e1, e2, e3⟩ := HY.out (by omega)
                exact ⟨⟨j', e1, by rw [e2], trivial, e3⟩, by simp [intOf]; omega⟩
              · have a5 : (x == 46) = false := by simp; omega
                have a6 : (x == 45) = false := by simp; omega
                by_cases a7 : x = 95
                · subst a7
                  go_wp2_with fail
                  obtain ⟨j', e1, e2, e3⟩ := HY.out (by omega)
                  exact ⟨⟨j', e1, by rw [e2], trivial, e3⟩, by simp [intOf]; omega⟩
                · have a8 : (x == 95) = false := by simp; omega
                  go_wp2_with fail
                  go_ret
                  exact ⟨by rw [HZ.out (by omega)]; rfl, rfl⟩
            · have a7 : (x == 95) = false := by simp; omega
              by_cases a5 : x = 46
              · subst a5
                go_wp2_with fail
                obtain ⟨j', e1, e2, e3⟩ := HY.out (by omega)
                exact ⟨⟨j', e1, by rw [e2], trivial, e3⟩, by simp [intOf]; omega⟩
              · have a8 : (x == 46) = false := by simp; omega
                by_cases a6 : x = 45
                · subst a6
                  go_wp2_with fail
                  obtain ⟨j', e1, e2, e3⟩ := HY.out (by omega)
                  exact ⟨⟨j', e1, by rw [e2], trivial, e3⟩, by simp [intOf]; omega⟩
                · have a9 : (x == 45) = false := by simp; omega
                  go_wp2_with fail
                  go_ret
                  exact ⟨by rw [HZ.out (by omega)]; rfl, rfl⟩
        · obtain rfl : j = k.length := by omega
          go_wp2_with fail
          go_ret
          exact ⟨by rw [HV.out (by have := HALL.out; rwa [List.take_length] at this)]; rfl, rfl⟩
    · have e : r = false := by rw [HR.out]; simp [Dk.valid, h2]
      subst e
      have d1 : decide ((k.length : Int) < 1) = false := by simp; omega
      have d2 : decide ((64 : Int) < (k.length : Int)) = true := by simp; omega
      go_enter Tryz.func192, Tryz.ntmps192
      go_wp2_with fail
      go_ret
      exact ⟨rfl, rfl⟩
  · have e : r = false := by rw [HR.out]; simp [Dk.valid, h1]
    subst e
    have d1 : decide ((k.length : Int) < 1) = true := by simp; omega
    go_enter Tryz.func192, Tryz.ntmps192
    go_wp2_with fail
    go_ret
    exact ⟨rfl, rfl⟩
end Go.Proofs.YtcmgppacipdnaaaGreatDoor

namespace Go.Proofs.YtcmgppacipdnaaaGreatDoor
open Go.RowKit Go.Maps

theorem DiskL.drewN {w : World} {Bd nb db : Nat} {sv : Value} {ids : List Nat} {row : Nat → Value} {s : Dk.St} {S : Nat → Prop} (h : DiskL w Bd nb db sv ids row s S) (n : Nat) : DiskL (w.drewN n) Bd nb db sv ids row s S := h.kept fun _ _ _ => rfl

set_option maxRecDepth 100000 in
theorem find_any (Bd nb db : Nat) (sv : Value) (ids : List Nat) (row : Nat → Value) (s : Dk.St) (S : Nat → Prop) (p : Nat → Addr) (k : Dk.Nm) (w : World) (hs : SentsD w p) (h : DiskL w Bd nb db sv ids row s S) (hk : k.length ≤ 9223372036854775807) :
    Calls Tryz.prog 147 #[.pointer (some ⟨Bd, 0, none⟩), encStr k] w fun e w' => e = .returned (.tuple #[fileV (s.find k).2, errR p (s.find k).1]) ∧ ∃ q, w' = w.drewN q := by
  have c1 : w.cell? ⟨Bd, 1, none⟩ = some (.map (some nb)) := box_cell h.box 1
  have c7 : w.cell? ⟨Bd, 7, none⟩ = some (.bool s.down) := box_cell h.box 7
  have g9 := hs.c9
  have g6 := hs.c6
  have hl := h.names.look k hk
  obtain ⟨r, hr⟩ : ∃ r, r = s.find k := ⟨_, rfl⟩
  rw [← hr]
  unfold Dk.St.find at hr
  clear h hs
  cases hd : s.down with
  | true =>
    rw [hd] at c7 hr
    simp only [if_true] at hr
    subst hr
    go_enter Tryz.func147, Tryz.ntmps147
    go_wp2_with fail
    go_quiet (fail)
    go_wp2_with fail
    go_returns
    exact ⟨by simp [fileV, errR], nq, rfl⟩
  | false =>
    rw [hd] at c7 hr
    cases hf : s.names k with
    | none =>
      rw [hf] at hl hr
      simp at hr
      subst hr
      have hl2 : (Instr.lookup 97 (.map (some nb)) (encStr k) false).run Tryz.prog w = .ok (.pointer none) w := hl
      clear hl
      go_enter Tryz.func147, Tryz.ntmps147
      go_wp2_with fail
      go_quiet (fail)
      go_wp2_with fail
      go_returns
      exact ⟨by simp [fileV, errR], nq, rfl⟩
    | some i =>
      rw [hf] at hl hr
      simp at hr
      subst hr
      have hl2 : (Instr.lookup 97 (.map (some nb)) (encStr k) false).run Tryz.prog w = .ok (.pointer (some ⟨i, 0, none⟩)) w := hl
      clear hl
      go_enter Tryz.func147, Tryz.ntmps147
      go_wp2_with fail
      go_returns
      exact ⟨by simp [fileV, errR], 0, rfl⟩

theorem neq_nilD (a : Addr) (w : World) : (binOp .neq 46 (errV a) .nilIface).run Tryz.prog w = .ok (.bool true) w := by
  obtain ⟨ms, i, j, h1, h2, h3, h4, h5⟩ := es_facts
  have h : ∀ d : Nat, (Op.equalIn (d + 1) 46 (errV a) .nilIface).run Tryz.prog w = .ok false w := fun d => by simp [Op.equalIn, run_underlying h1, errV]
  simp only [binOp]
  simp [Op.equal, Op.maxDepth, h 9999]

set_option maxRecDepth 100000 in
theorem change_any (Bd nb db : Nat) (sv : Value) (ids : List Nat) (row : Nat → Value) (s : Dk.St) (S : Nat → Prop) (p : Nat → Addr) (k : Dk.Nm) (w : World) (hs : SentsD w p) (h : DiskL w Bd nb db sv ids row s S) (ha : -9223372036854775808 ≤ s.armed ∧ s.armed ≤ 9223372036854775807)
    (hk : k.length ≤ 9223372036854775807) (hsafe : ∀ w', Chg (fun b => b = Bd) w w' → SentsD w' p) (hB : Bd ≠ 7) :
    Calls Tryz.prog 145 #[.pointer (some ⟨Bd, 0, none⟩), encStr k] w fun e w' => e = .returned (.tuple #[fileV (s.begin.find k).2, errR p (s.begin.find k).1]) ∧ DiskL w' Bd nb db sv ids row s.begin S ∧ Chg (fun b => b = Bd) w w' ∧ w'.heap.size = w.heap.size := by
  have HBG := hide (begin_any Bd nb db sv ids row s S p w hs h ha hB)
  have HF := hide (fun w' (hs' : SentsD w' p) (h' : DiskL w' Bd nb db sv ids row s.begin S) => find_any Bd nb db sv ids row s.begin S p k w' hs' h' hk)
  have HSF := hide hsafe
  have hfd : s.begin.down = true → s.begin.find k = (some 9, none) := fun h => by simp [Dk.St.find, h]
  have HFD := hide hfd
  clear hs h hsafe hfd
  generalize s.begin = t at *
  obtain ⟨r, hr⟩ : ∃ r, r = t.find k := ⟨_, rfl⟩
  rw [← hr] at HF HFD ⊢
  clear hr
  cases hd : t.down with
  | true =>
    have HR := hide (HFD.out hd)
    have HDD := hide hd
    have hne := fun w' => neq_nilD (p 9) w'
    unfold errV at hne
    clear HFD hd
    go_enter Tryz.func145, Tryz.ntmps145
    go_wp2_with (first
      | (go_at_call 164; refine HBG.out.mono ?_; rintro e w1 ⟨rfl, hd1, hc1, hz1⟩; have HD1 := hide hd1; have HC1 := hide hc1; clear hd1 hc1; rw [HDD.out]; simp only [if_true, errR, errV])
      | fail)
    go_returns
    refine ⟨?_, HD1.out, HC1.out, hz1⟩
    rw [HR.out]
    simp [fileV, errR, errV]
  | false =>
    have HDD := hide hd
    clear hd
    go_enter Tryz.func145, Tryz.ntmps145
    go_wp2_with (first
      | (go_at_call 164; refine HBG.out.mono ?_; rintro e w1 ⟨rfl, hd1, hc1, hz1⟩; have HD1 := hide hd1; have HC1 := hide hc1; clear hd1 hc1; rw [HDD.out]; simp only [Bool.false_eq_true, if_false, errR])
      | (go_at_call 147; refine (HF.out w1 (HSF.out _ HC1.out) HD1.out).mono ?_; rintro e w2 ⟨rfl, q, rfl⟩)
      | fail)
    go_returns
    exact ⟨rfl, HD1.out.drewN q, ⟨HC1.out.os, HC1.out.tape, HC1.out.output, HC1.out.size, HC1.out.block⟩, hz1⟩
end Go.Proofs.YtcmgppacipdnaaaGreatDoor

namespace Go.Proofs.YtcmgppacipdnaaaGreatDoor
open Go.RowKit Go.Maps

theorem Own.take {w : World} {base n len cap : Nat} {A : Option Addr} {l : List UInt8} (h : Own w base (.slice A len cap) l) (hn : n ≤ l.length) : Own w base (.slice A n cap) (l.take n) := by
  obtain ⟨_, h2⟩ := h
  have hlen : (l.take n).length = n := by simp; omega
  refine ⟨by simp [cells_len], ?_⟩
  rcases h2 with ⟨e, h0⟩ | ⟨g, cp, cur, e, hb, hh, hc, hm, hs, ht⟩
  · injection e with e1 e2 e3
    subst e1 e2 e3
    obtain rfl : n = 0 := by omega
    exact .inl ⟨rfl, by simp⟩
  · injection e with e1 e2 e3
    subst e1 e3
    refine .inr ⟨g, cap, cur, by rw [hlen], hb, hh, by omega, hm, hs, ?_⟩
    have h3 : cells (l.take n) = (cells l).take n := by simp [cells, List.map_take]
    rw [h3, ← ht, hlen, List.take_take]
    congr 1
    omega
theorem ownBlock_lt {w : World} {v : Value} {l : List UInt8} (h : Own w 0 v l) {g : Nat} (hg : v.ownBlock = some g) : ∃ cur, w.heap[g]? = some (.cells cur 5 (0, 0)) := by
  rcases h.2 with ⟨e, _⟩ | ⟨g', cap, cur, e, _, hh, _⟩
  · rw [e] at hg; cases hg
  · rw [e] at hg; injection hg with hg; subst hg; exact ⟨cur, hh⟩
theorem rowBlock_at {w : World} {e : TypeId} {n sz : Nat} {v : Value} {xs : List Value} (h : w.ownsRow 0 e sz v n xs) {g : Nat} (hg : v.ownBlock = some g) : ∃ cur, w.heap[g]? = some (.cells cur e (0, 0)) := by
  rcases h.2 with ⟨e, _⟩ | ⟨g', cap, cur, e, _, hh, _⟩
  · rw [e] at hg; cases hg
  · rw [e] at hg; injection hg with hg; subst hg; exact ⟨cur, hh⟩
theorem types_ne {w : World} {i j : Nat} {c c' : Array Value} {t t' : TypeId} (h : w.heap[i]? = some (.cells c t (0, 0))) (h' : w.heap[j]? = some (.cells c' t' (0, 0))) (ht : t ≠ t') : i ≠ j := by
  intro e
  subst e
  rw [h] at h'
  injection h' with h'
  injection h' with _ h' _
  exact ht h'
theorem map_ne {w : World} {i b n : Nat} {c : Array Value} {t : TypeId} {f : Dk.Dir} (h : NamesAt w b n f) (h' : w.heap[i]? = some (.cells c t (0, 0))) : b ≠ i := by
  obtain ⟨D, ⟨es, clock, h1, _⟩, _⟩ := h.ex
  intro e
  subst e
  rw [h1] at h'
  cases h'

theorem DiskL.file_ {w w' : World} {Bd nb db : Nat} {sv : Value} {ids : List Nat} {row : Nat → Value} {s : Dk.St} {S : Nat → Prop} (h : DiskL w Bd nb db sv ids row s S) (i : Nat) (hi : i ∈ ids) (v' : Value) (f' : Dk.File) (hf : FileAt w' i v' f')
    (hk : ∀ k, k < w.heap.size → k ≠ i → some k ≠ (row i).ownBlock → w'.heap[k]? = w.heap[k]?) (hv : ∀ g, v'.ownBlock = some g → (row i).ownBlock = some g ∨ w.heap.size ≤ g) (_hsz : w.heap.size ≤ w'.heap.size) :
    DiskL w' Bd nb db sv ids (fun j => if j = i then v' else row j) (s.setFile i f') (Up S w w') := by
  have lt : ∀ {k : Nat} {o : Obj}, w.heap[k]? = some o → k < w.heap.size := fun h => (Array.getElem?_eq_some_iff.1 h).1
  have lt' : ∀ {k : Nat} {o : Obj}, w'.heap[k]? = some o → k < w'.heap.size := fun h => (Array.getElem?_eq_some_iff.1 h).1
  have hfi := h.file i hi
  have key : ∀ k o, w.heap[k]? = some o → k ≠ i → (∀ g, (row i).ownBlock = some g → k ≠ g) → w'.heap[k]? = w.heap[k]? := fun k o hk1 h1 h2 => hk k (lt hk1) h1 fun e => h2 k e.symm rfl
  have nrow : ∀ {k : Nat} {c : Array Value} {t : TypeId}, w.heap[k]? = some (.cells c t (0, 0)) → t ≠ 5 → ∀ g, (row i).ownBlock = some g → k ≠ g := fun h1 ht g hg => by
    obtain ⟨cur, h2⟩ := ownBlock_lt hfi.row hg
    exact types_ne h1 h2 ht
  have kcell : ∀ {k : Nat} {c : Array Value} {t : TypeId}, w.heap[k]? = some (.cells c t (0, 0)) → t ≠ 5 → t ≠ 110 → w'.heap[k]? = w.heap[k]? := fun h1 h2 h3 => key _ _ h1 (types_ne h1 hfi.box h3) (nrow h1 h2)
  have kmap : ∀ {b n : Nat} {f : Dk.Dir}, NamesAt w b n f → NamesAt w' b n f := fun h1 => by
    refine h1.same ?_
    refine hk _ h1.lt (map_ne h1 hfi.box) fun e => ?_
    obtain ⟨cur, h2⟩ := ownBlock_lt hfi.row e.symm
    exact map_ne h1 h2 rfl
  obtain ⟨m, hd, hm⟩ := h.dur
  have kfile : ∀ j ∈ ids, j ≠ i → FileAt w' j (row j) (s.files j) := fun j hj hji => by
    have hfj := h.file j hj
    refine hfj.same (key _ _ hfj.box hji (nrow hfj.box (by decide))) fun g hg => ?_
    obtain ⟨cur, h2⟩ := ownBlock_lt hfj.row hg
    exact key _ _ h2 (types_ne h2 hfi.box (by decide)) fun g' hg' e => by subst e; exact h.apart i hi j hj (Ne.symm hji) g hg' hg
  refine { box := (kcell h.box (by decide) (by decide)).trans h.box, names := kmap h.names, dur := ⟨m, kmap hd, hm⟩, ne := h.ne, since := ownsRow_same h.since fun g hg => ?_, nodup := h.nodup, file := fun j hj => ?_, apart := fun a ha b hb hab g hg => ?_, nref := h.nref, dref := h.dref, sref := h.sref, calls := h.calls, mBd := .inl h.mBd, mnb := .inl h.mnb, mdb := .inl h.mdb, msv := fun g hg => .inl (h.msv g hg), mid := fun j hj => .inl (h.mid j hj), mrow := fun j hj g hg => ?_ }
  · obtain ⟨cur, h2⟩ := rowBlock_at h.since hg
    exact kcell h2 (by decide) (by decide)
  · by_cases e : j = i
    · subst e; simp only [if_true, Dk.setFile_same]; exact hf
    · simp only [if_neg e, Dk.setFile_other _ _ _ _ e]; exact kfile j hj e
  · have hlow : ∀ c ∈ ids, c ≠ i → ∀ g, (row c).ownBlock = some g → g < w.heap.size := fun c hc _ g hg => ((h.file c hc).row.lt g hg).2
    by_cases ea : a = i
    · subst ea
      simp only [if_true] at hg
      have eb : b ≠ a := Ne.symm hab
      simp only [if_neg eb]
      intro hg2
      rcases hv g hg with h1 | h1
      · exact h.apart a hi b hb hab g h1 hg2
      · have := hlow b hb eb g hg2; omega
    · simp only [if_neg ea] at hg
      by_cases eb : b = i
      · subst eb
        simp only [if_true]
        intro hg2
        rcases hv g hg2 with h1 | h1
        · exact h.apart a ha b hi hab g hg h1
        · have := hlow a ha ea g hg; omega
      · simp only [if_neg eb]
        exact h.apart a ha b hb hab g hg
  · by_cases e : j = i
    · subst e
      simp only [if_true] at hg
      rcases hv g hg with h1 | h1
      · exact .inl (h.mrow j hj g h1)
      · obtain ⟨cur, h2⟩ := ownBlock_lt hf.row hg
        exact .inr ⟨h1, lt' h2⟩
    · simp only [if_neg e] at hg
      exact .inl (h.mrow j hj g hg)
theorem up_same {S : Nat → Prop} {w w' : World} (h : w'.heap.size = w.heap.size) : ∀ k, Up S w w' k → S k := fun k hk => by
  rcases hk with hk | hk
  · exact hk
  · omega

set_option maxRecDepth 100000 in
theorem keep_any (i : Nat) (v : Value) (f : Dk.File) (n : Nat) (w : World) (h : FileAt w i v f) (hn : n ≤ f.bytes.length) :
    Calls Tryz.prog 70 #[.pointer (some ⟨i, 0, none⟩), .int .i64 (n : Int)] w fun e w' => e = .returned (.tuple #[]) ∧ ∃ v', FileAt w' i v' (f.keep n) ∧ (∀ g, v'.ownBlock = some g → v.ownBlock = some g) ∧ Chg (fun k => k = i) w w' ∧ w'.heap.size = w.heap.size := by
  obtain ⟨A, c, rfl, ha⟩ := h.row.arg
  have c1 : w.cell? ⟨i, 1, none⟩ = some (.slice A f.bytes.length c) := box_cell h.box 1
  have c2 : w.cell? ⟨i, 2, none⟩ = some (.int .i64 (f.synced : Int)) := box_cell h.box 2
  have f1 := box_free h.box 1
  have f2 := box_free h.box 2
  have hle := ha.le
  have hmx := ha.max
  have hA := ha.nil
  have HH := hide h
  clear h ha
  generalize hfl : f.bytes.length = L at *
  go_enter Tryz.func70, Tryz.ntmps70
  go_wp2_with fail
  go_end0
  have hrow := HH.out.row
  have hb1 := heap_setCell_same w i 1 _ _ (.slice A n c) HH.out.box
  have hb2 := heap_setCell_same _ i 2 _ _ (.int .i64 (n : Int)) hb1
  refine ⟨rfl, .slice A n c, ⟨by rw [hb2]; rfl, ?_, by simp [Dk.File.keep]; omega⟩, fun g hg => (by cases A with | none => cases hg | some a => exact hg), (Chg.setCell (S := fun k => k = i) w i 1 _ rfl).then (Chg.setCell (S := fun k => k = i) _ i 2 _ rfl), by simp⟩
  refine ownsRow_same (hrow.take (by rw [hfl]; exact hn)) fun g hg => ?_
  have hg2 : (Value.slice A L c).ownBlock = some g := by cases A with | none => cases hg | some a => exact hg
  obtain ⟨cur, h2⟩ := ownBlock_lt hrow hg2
  have hne : g ≠ i := types_ne h2 HH.out.box (by decide)
  rw [Below.heap_setCell _ _ _ _ (by exact hne), Below.heap_setCell _ _ _ _ (by exact hne)]
end Go.Proofs.YtcmgppacipdnaaaGreatDoor

namespace Go.Proofs.YtcmgppacipdnaaaGreatDoor
open Go.RowKit Go.Maps

/-- None of S's blocks is an error's. -/
structure Safe (S : Nat → Prop) (p : Nat → Addr) : Prop where
  g : ∀ j, 4 ≤ j → j ≤ 9 → ¬ S (gs.getD j 0)
  b : ∀ j, 4 ≤ j → j ≤ 9 → ¬ S (p j).block
theorem SentsOn.chg {S : Nat → Prop} {w w' : World} {p : Nat → Addr} (h : SentsD w p) (hS : Safe S p) (hc : Chg S w w') : SentsD w' p :=
  ⟨fun j hj => hc.cell (h.cell j hj) (hS.g j hj.1 hj.2), fun j hj => by
    obtain ⟨h1, c, t, h2⟩ := h.blk j hj
    exact ⟨Nat.lt_of_lt_of_le h1 hc.size, c, t, (hc.block _ h1 (hS.b j hj.1 hj.2)).trans h2⟩, h.ne⟩
/-- What a call leaves. -/
structure Next (w : World) (Bd : Nat) (S : Nat → Prop) (s' : Dk.St) (w' : World) : Prop where
  disk : IsDisk w' Bd s' (Up S w w')
  chg : Chg S w w'
/-- Numbers that stay within 64 bits. -/
structure Dk.Fit (s : Dk.St) : Prop where
  armed : -9223372036854775808 ≤ s.armed ∧ s.armed ≤ 9223372036854775807
  calls : 0 ≤ s.calls ∧ s.calls ≤ 1099511627776
  used : -1125899906842624 ≤ s.used ∧ s.used ≤ 1125899906842624
  room : 0 ≤ s.room ∧ s.room ≤ 1125899906842624
  file : ∀ i, (s.files i).bytes.length ≤ 1000000000
theorem Dk.Fit.begin {s : Dk.St} (h : Dk.Fit s) : Dk.Fit s.begin := by
  unfold Dk.St.begin
  split
  · exact ⟨by have := h.armed; show _ ≤ s.armed - 1 ∧ s.armed - 1 ≤ _; omega, h.calls, h.used, h.room, h.file⟩
  · exact h
theorem find_cases (t : Dk.St) (k : Dk.Nm) : (∃ j, t.find k = (some j, none)) ∨ ∃ i, t.find k = (none, some i) ∧ t.names k = some i := by
  unfold Dk.St.find
  split
  · exact .inl ⟨9, rfl⟩
  · cases h : t.names k with
    | none => exact .inl ⟨6, rfl⟩
    | some i => exact .inr ⟨i, rfl, rfl⟩

set_option maxRecDepth 100000 in
theorem sync_any (Bd : Nat) (s : Dk.St) (S : Nat → Prop) (p : Nat → Addr) (k : Dk.Nm) (w : World) (hs : SentsD w p) (hS : Safe S p) (h : IsDisk w Bd s S) (hft : Dk.Fit s) (hk : k.length ≤ 9223372036854775807) :
    Calls Tryz.prog 110 #[.pointer (some ⟨Bd, 0, none⟩), encStr k] w fun e w' => e = .returned (errR p (s.sync k).1) ∧ Next w Bd S (s.sync k).2 w' := by
  obtain ⟨nb, db, sv, ids, row, h⟩ := h
  have hBS : ∀ b, b = Bd → S b := fun b e => e ▸ h.mBd
  have HCH := hide (change_any Bd nb db sv ids row s S p k w hs h hft.armed hk (fun w' hc => hs.chg hS (hc.mono hBS)) (fun e => hS.g 9 (by omega) (by omega) (show S 7 from e ▸ h.mBd)))
  have hft' := hft.begin
  obtain ⟨r, hr⟩ : ∃ r, r = s.sync k := ⟨_, rfl⟩
  rw [← hr]
  unfold Dk.St.sync at hr
  have HBS := hide hBS
  clear hs h hft hBS
  generalize s.begin = t at *
  rcases find_cases t k with ⟨j, hf⟩ | ⟨i, hf, hnm⟩
  · rw [hf] at hr HCH
    simp only at hr HCH
    subst hr
    have hne := fun w' => neq_nilD (p j) w'
    unfold errV at hne
    have HFT := hide hft'
    clear hft'
    go_enter Tryz.func110, Tryz.ntmps110
    go_wp2_with (first
      | (go_at_call 145; refine HCH.out.mono ?_; rintro e w1 ⟨rfl, hd1, hc1, hz1⟩; have HD1 := hide hd1; have HC1 := hide hc1; clear hd1 hc1; simp only [errR, errV, fileV])
      | fail)
    go_ret
    exact ⟨rfl, ⟨_, _, _, _, _, HD1.out.mono up_self⟩, HC1.out.mono HBS.out⟩
  · rw [hf] at hr HCH
    simp only at hr HCH
    subst hr
    have HFT := hide hft'
    have HNM := hide hnm
    clear hft' hnm hf
    go_enter Tryz.func110, Tryz.ntmps110
    go_wp2_with (first
      | (go_at_call 145; refine HCH.out.mono ?_; rintro e w1 ⟨rfl, hd1, hc1, hz1⟩; have HD1 := hide hd1; have HC1 := hide hc1; obtain ⟨hi, -, -⟩ := hd1.nref k i HNM.out; have hfi := hd1.file i hi; have HFI := hide hfi; obtain ⟨A, c, hrv, -⟩ := hfi.row.arg; have hc1' : w1.cell? ⟨i, 1, none⟩ = some (row i) := box_cell hfi.box 1; rw [hrv] at hc1'; have HKP := hide (keep_any i (row i) (t.files i) (t.files i).bytes.length w1 hfi (Nat.le_refl _)); have HI := hide hi; clear hd1 hc1 hfi hrv hi; simp only [errR, fileV])
      | (go_at_call 70; refine HKP.out.mono ?_; rintro e w2 ⟨rfl, v', hf2, hv2, hc2, hz2⟩; have HD2 := hide (HD1.out.file_ i HI.out v' _ hf2 (fun b hb hbi _ => hc2.block b hb hbi) (fun g hg => .inl (hv2 g hg)) (by omega)); have c5 : w2.cell? ⟨Bd, 5, none⟩ = some (.int .i64 t.calls) := box_cell HD2.out.box 5; have f5 := box_free HD2.out.box 5; have HC2 := hide hc2; have HZ := hide hz2; have hw5 : IntKind.i64.wrap (t.calls + 1) = t.calls + 1 := IntWalk.i64_in _ (by have := HFT.out.calls; omega); clear hf2 hv2 hc2 hz2)
      | fail)
    go_ret
    refine ⟨rfl, ⟨_, _, _, _, _, (HD2.out.set 5 (.int .i64 (t.calls + 1)) { t.setFile i ((t.files i).keep (t.files i).bytes.length) with calls := t.calls + 1 } rfl rfl rfl rfl rfl (by show t.calls ≤ t.calls + 1; omega)).mono fun b hb => .inl (up_same HZ.out b hb)⟩, ?_⟩
    exact ((HC1.out.mono HBS.out).then (HC2.out.mono fun b e => e ▸ HD1.out.mid i HI.out)).then (Chg.setCell _ _ _ _ HD1.out.mBd)

def LenIs (b : List UInt8) (n : Nat) : Prop := b.length = n
theorem LenIs.out {b : List UInt8} {n : Nat} (h : LenIs b n) : b.length = n := h
theorem Arg.chg {S : Nat → Prop} {w w' : World} {A : Option Addr} {c : Nat} {l : List UInt8} (h : Arg w A c l) (hc : Chg S w w') (hA : ∀ b o, A = some ⟨b, o, none⟩ → l ≠ [] → ¬ S b) : Arg w' A c l := by
  refine ⟨h.le, h.max, h.nil, ?_⟩
  rcases h.reads with e | ⟨b, off, e, hb, hr⟩
  · exact .inl e
  · by_cases hl : l = []
    · exact .inl hl
    · exact .inr ⟨b, off, e, Nat.lt_of_lt_of_le hb hc.size, fun k hk => hc.cell (hr k hk) (hA b off e hl)⟩

set_option maxRecDepth 100000 in
set_option maxHeartbeats 1000000 in
theorem append_any (Bd : Nat) (s : Dk.St) (S : Nat → Prop) (p : Nat → Addr) (k : Dk.Nm) (A : Option Addr) (cb nb_ : Nat) (b : List UInt8) (w : World) (hs : SentsD w p) (hS : Safe S p) (h : IsDisk w Bd s S) (hft : Dk.Fit s) (hk : k.length ≤ 9223372036854775807)
    (hb : Arg w A cb b) (hn : b.length = nb_) (hbl : nb_ ≤ 1000000) (hbS : ∀ x o, A = some ⟨x, o, none⟩ → b ≠ [] → ¬ S x) :
    Calls Tryz.prog 108 #[.pointer (some ⟨Bd, 0, none⟩), encStr k, .slice A nb_ cb] w fun e w' => e = .returned (errR p (s.append k b).1) ∧ Next w Bd S (s.append k b).2 w' := by
  obtain ⟨nb, db, sv, ids, row, h⟩ := h
  have hBS : ∀ b, b = Bd → S b := fun b e => e ▸ h.mBd
  have HCH := hide (change_any Bd nb db sv ids row s S p k w hs h hft.armed hk (fun w' hc => hs.chg hS (hc.mono hBS)) (fun e => hS.g 9 (by omega) (by omega) (show S 7 from e ▸ h.mBd)))
  have hft' := hft.begin
  obtain ⟨r, hr⟩ : ∃ r, r = s.append k b := ⟨_, rfl⟩
  rw [← hr]
  unfold Dk.St.append at hr
  have HBS := hide hBS
  have HSE := hide hs
  have HB := hide hb
  have HN := hide hn
  have HNL : LenIs b nb_ := hn
  have HBX := hide hbS
  clear hs h hft hBS hb hn hbS
  generalize s.begin = t at *
  rcases find_cases t k with ⟨j, hf⟩ | ⟨i, hf, hnm⟩
  · rw [hf] at hr HCH
    simp only at hr HCH
    subst hr
    have hne := fun w' => neq_nilD (p j) w'
    unfold errV at hne
    have HFT := hide hft'
    clear hft'
    go_enter Tryz.func108, Tryz.ntmps108
    go_wp2_with (first
      | (go_at_call 145; refine HCH.out.mono ?_; rintro e w1 ⟨rfl, hd1, hc1, hz1⟩; have HD1 := hide hd1; have HC1 := hide hc1; clear hd1 hc1; simp only [errR, errV, fileV])
      | fail)
    go_ret
    exact ⟨rfl, ⟨_, _, _, _, _, HD1.out.mono up_self⟩, HC1.out.mono HBS.out⟩
  · rw [hf] at hr HCH
    simp only at hr HCH
    have HFT := hide hft'
    have HNM := hide hnm
    have hu := hft'.used
    have hro := hft'.room
    have hw1 : IntKind.i64.wrap (t.room - t.used) = t.room - t.used := IntWalk.i64_in _ (by omega)
    have hw2 : IntKind.i64.wrap (t.calls + 1) = t.calls + 1 := IntWalk.i64_in _ (by have := HFT.out.calls; omega)
    have hw3 : IntKind.i64.wrap (t.used + (nb_ : Int)) = t.used + (nb_ : Int) := IntWalk.i64_in _ (by omega)
    clear hft' hnm hf
    by_cases hfull : t.room - t.used < (nb_ : Int)
    · rw [if_pos (by rw [HN.out]; exact hfull)] at hr
      subst hr
      have d1 : decide (t.room - t.used < (nb_ : Int)) = true := by simp [hfull]
      go_enter Tryz.func108, Tryz.ntmps108
      go_wp2_with (first
        | (go_at_call 145; refine HCH.out.mono ?_; rintro e w1 ⟨rfl, hd1, hc1, hz1⟩; have HD1 := hide hd1; have HC1 := hide hc1; have e0 : w1.cell? ⟨Bd, 0, none⟩ = some (.int .i64 t.room) := box_cell hd1.box 0; have e4 : w1.cell? ⟨Bd, 4, none⟩ = some (.int .i64 t.used) := box_cell hd1.box 4; have g8 := (HSE.out.chg hS (hc1.mono HBS.out)).c8; clear hd1 hc1; simp only [errR, fileV])
        | fail)
      go_quiet (fail)
      go_wp2_with fail
      go_ret
      exact ⟨rfl, ⟨_, _, _, _, _, (HD1.out.drewN nq).mono up_self⟩, HC1.out.mono HBS.out |>.then ⟨rfl, rfl, rfl, Nat.le_refl _, fun _ _ _ => rfl⟩⟩
    · rw [if_neg (by rw [HN.out]; exact hfull)] at hr
      subst hr
      have d1 : decide (t.room - t.used < (nb_ : Int)) = false := by simp; omega
      go_enter Tryz.func108, Tryz.ntmps108
      go_wp2_with (first
        | (go_at_call 145; refine HCH.out.mono ?_; rintro e w1 ⟨rfl, hd1, hc1, hz1⟩; have HD1 := hide hd1; have HC1 := hide hc1; have e0 : w1.cell? ⟨Bd, 0, none⟩ = some (.int .i64 t.room) := box_cell hd1.box 0; have e4 : w1.cell? ⟨Bd, 4, none⟩ = some (.int .i64 t.used) := box_cell hd1.box 4; clear hd1 hc1; simp only [errR, fileV])
        | fail)
      go_quiet (fail)
      obtain ⟨hi, -, -⟩ := HD1.out.nref k i HNM.out
      have hfi := HD1.out.file i hi
      have HFI := hide hfi
      have HI := hide hi
      obtain ⟨A1, c1, hrv, -⟩ := hfi.row.arg
      have hc1' : w1.cell? ⟨i, 1, none⟩ = some (row i) := box_cell hfi.box 1
      rw [hrv] at hc1'
      have HRV := hide hrv
      have HBA := hide (HB.out.chg (HC1.out.mono HBS.out) HBX.out)
      have hcq : (w1.drewN nq).cell? ⟨i, 1, none⟩ = some (.slice A1 (t.files i).bytes.length c1) := hc1'
      have hrow := hfi.row
      rw [hrv] at hrow
      have HRO : Hid (Own (w1.drewN nq) 0 (.slice A1 (t.files i).bytes.length c1) (t.files i).bytes) := hide hrow
      have HRD : Hid (Reads (w1.drewN nq) A b) := hide HBA.out.reads
      have HDQ := hide (HD1.out.drewN nq)
      have HFQ : Hid (FileAt (w1.drewN nq) i (row i) (t.files i)) := hide (hfi.same rfl fun _ _ => rfl)
      have HCQ : Hid (Chg (fun b => b = Bd) w (w1.drewN nq)) := hide ⟨HC1.out.os, HC1.out.tape, HC1.out.output, HC1.out.size, HC1.out.block⟩
      have HZQ : Hid ((w1.drewN nq).heap.size = w.heap.size) := hide hz1
      clear hfi hi hrv hc1' hrow e0 e4 HD1 HC1 hz1 HFI HBA
      generalize w1.drewN nq = wq at *
      have hci : wq.cell? ⟨i, 1, none⟩ = some (.slice A1 (t.files i).bytes.length c1) := hcq
      have hnb : some i ≠ (Value.slice A1 (t.files i).bytes.length c1).ownBlock := fun e => by
        obtain ⟨cur, h2⟩ := ownBlock_lt HRO.out e.symm
        exact types_ne HFQ.out.box h2 (by decide) rfl
      have HNB := hide hnb
      have hfi := box_free HFQ.out.box 1
      have hnd : some Bd ≠ (Value.slice A1 (t.files i).bytes.length c1).ownBlock := fun e => by
        obtain ⟨cur, h2⟩ := ownBlock_lt HRO.out e.symm
        exact types_ne HDQ.out.box h2 (by decide) rfl
      have HND := hide hnd
      have y4 : wq.cell? ⟨Bd, 4, none⟩ = some (.int .i64 t.used) := box_cell HDQ.out.box 4
      have y5 : wq.cell? ⟨Bd, 5, none⟩ = some (.int .i64 t.calls) := box_cell HDQ.out.box 5
      have z4 := box_free HDQ.out.box 4
      have z5 := box_free HDQ.out.box 5
      have hlb : Bd < wq.heap.size := World.block_lt_of_cell? wq _ y4
      have hli : i < wq.heap.size := World.block_lt_of_cell? wq _ hci
      clear hcq hnb hnd
      go_wp2_with (first
        | (at_builtin; refine wpList_app rfl (.tmp 35) (.tmp 36) rfl 0 (.slice A1 (t.files i).bytes.length c1) (t.files i).bytes b rfl HRO.out A nb_ cb rfl HN.out HRD.out (by have := HFT.out.file i; omega) (Nat.zero_le _) ?_; intro v' w2 hown2 hg2 hv2; have HOW := hide hown2; have HG2 := hide hg2; have HV2 := hide hv2; obtain ⟨A', c', rfl, -⟩ := hown2.arg; rw [List.length_append, HN.out] at *; have hci2 := hg2.cell hci HNB.out; have hfi2 : w2.frozen? ⟨i, 1, none⟩ = false := (World.frozen?_of_block (hg2.block i hli HNB.out)).trans hfi; have e4 := hg2.cell y4 HND.out; have e5 := hg2.cell y5 HND.out; have x4 : w2.frozen? ⟨Bd, 4, none⟩ = false := (World.frozen?_of_block (hg2.block Bd hlb HND.out)).trans z4; have x5 : w2.frozen? ⟨Bd, 5, none⟩ = false := (World.frozen?_of_block (hg2.block Bd hlb HND.out)).trans z5; clear hown2 hg2 hv2 hci hfi y4 y5 z4 z5)
        | fail)
      go_ret
      have hbx2 : w2.heap[i]? = some (.cells #[.int .i64 (t.files i).born, row i, .int .i64 ((t.files i).synced : Int)] 110 (0, 0)) := (HG2.out.block i hli HNB.out).trans HFQ.out.box
      have hbx3 := heap_setCell_same w2 i 1 _ _ (.slice A' ((t.files i).bytes.length + nb_) c') hbx2
      have hw3 : FileAt (w2.setCell ⟨i, 1, none⟩ (.slice A' ((t.files i).bytes.length + nb_) c')) i (.slice A' ((t.files i).bytes.length + nb_) c') { t.files i with bytes := (t.files i).bytes ++ b } := by
        refine ⟨hbx3, ownsRow_same HOW.out fun g hg => ?_, by have := HFQ.out.sync; simp; omega⟩
        obtain ⟨cur, h2⟩ := ownBlock_lt HOW.out hg
        exact Below.heap_setCell _ _ _ _ (types_ne h2 hbx2 (by decide))
      have hd3 := HDQ.out.file_ i HI.out _ _ hw3 (fun x hx hxi hxr => by
        rw [Below.heap_setCell _ _ _ _ (by exact hxi)]
        exact HG2.out.block x hx (by rw [HRV.out] at hxr; exact hxr)) (fun g hg => by
        rcases HV2.out with e | e
        · rw [e] at hg; exact .inl (by rw [HRV.out]; exact hg)
        · rw [e] at hg; injection hg with hg; exact .inr (by omega)) (by rw [World.size_setCell]; exact HG2.out.size)
      have hc3 : Chg S wq (w2.setCell ⟨i, 1, none⟩ (.slice A' ((t.files i).bytes.length + nb_) c')) := (Chg.of_grown HG2.out fun g hg => HDQ.out.mrow i HI.out g (by rw [HRV.out]; exact hg)).then (Chg.setCell _ _ _ _ (HDQ.out.mid i HI.out))
      generalize w2.setCell ⟨i, 1, none⟩ (.slice A' ((t.files i).bytes.length + nb_) c') = w3 at *
      have hd4 := (hd3.set 4 (.int .i64 (t.used + nb_)) { t.setFile i { t.files i with bytes := (t.files i).bytes ++ b } with used := t.used + nb_ } rfl rfl rfl rfl rfl (Int.le_refl _)).set 5 (.int .i64 (t.calls + 1)) { t.setFile i { t.files i with bytes := (t.files i).bytes ++ b } with used := t.used + nb_, calls := t.calls + 1 } rfl rfl rfl rfl rfl (by show t.calls ≤ t.calls + 1; omega)
      have hup : ∀ x, Up S wq w3 x → Up S w ((w3.setCell ⟨Bd, 4, none⟩ (.int .i64 (t.used + nb_))).setCell ⟨Bd, 5, none⟩ (.int .i64 (t.calls + 1))) x := fun x hx => by
        rcases hx with hx | hx
        · exact .inl hx
        · refine .inr ?_
          have := HZQ.out
          simp only [World.size_setCell]
          omega
      rw [HNL.out]
      exact ⟨rfl, ⟨_, _, _, _, _, hd4.mono hup⟩, ((((HCQ.out.mono HBS.out).then hc3).then (Chg.setCell _ _ _ _ HDQ.out.mBd)).then (Chg.setCell _ _ _ _ HDQ.out.mBd))⟩
end Go.Proofs.YtcmgppacipdnaaaGreatDoor

namespace Go.Proofs.YtcmgppacipdnaaaGreatDoor
open Go.RowKit Go.Maps

theorem Chg.then' {S : Nat → Prop} {a b c : World} (h : Chg S a b) (k : Chg S b c) : Chg S a c := h.then k
section
variable {w : World} {ops : Array Oper} {rest : List Oper} {o : Oper} {a : Act} {Q : Exit → Act → World → Prop}
theorem step_del (hg : o.guard = none) (m x : Operand) (hop : o.op = Op.call { callee := Callee.builtin Builtin.delete, args := #[m, x], argTypes := #[97, 9] }) (b n : Nat) (f : Dk.Dir) (hm : a.eval m = .map (some b)) (h : NamesAt w b n f) (k : Dk.Nm) (hk : k.length ≤ 9223372036854775807) (hx : a.eval x = encStr k)
    (hK : ∀ w', NamesAt w' b n (Dk.upd f k none) → w.grownBy w' (some b) → w'.heap.size = w.heap.size → wpList Tryz.prog ops Q rest (a.put o.dst (.tuple #[])) w') : wpList Tryz.prog ops Q (o :: rest) a w := by
  refine wpList_plain hg fun K' hK' => ?_
  obtain ⟨w', hrun, r1, r2, r3⟩ := h.del k hk o.type
  unfold Oper.wp
  simp [execOp, hop, resolve, invoke, builtin, hm, hx, hrun, Result.andThen]
  exact hK' _ _ (hK w' r1 r2 r3)
theorem step_put (hg : o.guard = none) (m x v : Operand) (hop : o.op = Op.mapUpdate 97 m x v) (b n : Nat) (f : Dk.Dir) (hm : a.eval m = .map (some b)) (h : NamesAt w b n f) (k : Dk.Nm) (hk : k.length ≤ 9223372036854775807) (hx : a.eval x = encStr k) (i : Nat) (hv : a.eval v = fileV (some i)) (hn : n < 9223372036854775807)
    (hK : ∀ w', NamesAt w' b (n + 1) (Dk.upd f k (some i)) → w.grownBy w' (some b) → w'.heap.size = w.heap.size → wpList Tryz.prog ops Q rest (a.put o.dst undef) w') : wpList Tryz.prog ops Q (o :: rest) a w := by
  refine wpList_plain hg fun K' hK' => ?_
  obtain ⟨w', hrun, r1, r2, r3⟩ := h.put k i hk hn
  unfold Oper.wp
  simp [execOp, hop, hm, hx, hv, hrun, Result.andThen]
  exact hK' _ _ (hK w' r1 r2 r3)
end
theorem made3D (w : World) (v0 v1 v2 : Value) (t : TypeId) : (w.alloc (.cells #[v0, v1, v2] t)).cell? ⟨w.heap.size, 0, none⟩ = some v0 ∧ (w.alloc (.cells #[v0, v1, v2] t)).cell? ⟨w.heap.size, 1, none⟩ = some v1 ∧ (w.alloc (.cells #[v0, v1, v2] t)).cell? ⟨w.heap.size, 2, none⟩ = some v2 :=
  ⟨by rw [World.cell?_alloc_mark]; rfl, by rw [World.cell?_alloc_mark]; rfl, by rw [World.cell?_alloc_mark]; rfl⟩
abbrev mvV (m : Dk.Mv) : Value := .agg #[encStr m.frm, encStr m.«to», fileV m.file]

set_option maxRecDepth 100000 in
theorem mvIn_any (m : Dk.Mv) (b n : Nat) (f : Dk.Dir) (w : World) (h : NamesAt w b n f) (hn : n < 1000000000000000) (h1 : m.frm.length ≤ 64) (h2 : m.«to».length ≤ 64) (h3 : m.«to» ≠ [] → m.file ≠ none) :
    Calls Tryz.prog 113 #[mvV m, .map (some b)] w fun e w' => e = .returned (.tuple #[]) ∧ NamesAt w' b (n + 1) (m.on f) ∧ Chg (fun k => k = b) w w' := by
  obtain ⟨frm, «to», file⟩ := m
  simp only at h1 h2 h3
  obtain ⟨m0, m1, m2⟩ := made3D w (encStr frm) (encStr «to») (fileV file) 157
  obtain ⟨W, hW⟩ : ∃ W, W = w.alloc (.cells #[encStr frm, encStr «to», fileV file] 157) := ⟨_, rfl⟩
  rw [← hW] at m0 m1 m2
  have hwb : Below w.heap.size w W := by rw [hW]; exact balloc (Below.refl _ _) _
  have HN := hide (h.same (hwb.block b h.lt))
  have HB := hide hwb
  have HNB : Hid (some w.heap.size ≠ some b) := hide (fun e => by injection e with e; have := h.lt; omega)
  have k1 : frm.length ≤ 9223372036854775807 := by omega
  have k2 : «to».length ≤ 9223372036854775807 := by omega
  have HW := hide hW
  clear h hwb hW
  obtain ⟨g, hg⟩ : ∃ g, g = Dk.Mv.on ⟨frm, «to», file⟩ f := ⟨_, rfl⟩
  rw [← hg]
  unfold Dk.Mv.on at hg
  simp only at hg
  by_cases hf : frm = []
  · subst hf
    by_cases ht : «to» = []
    · subst ht
      simp only [if_true] at hg
      subst hg
      go_enter Tryz.func113, Tryz.ntmps113
      go_upto_region 1 with fail
      rw [← HW.out]
      go_wp2_with fail
      go_end0
      exact ⟨rfl, HN.out.mono (by omega), Chg.of_below HB.out⟩
    · simp only [if_true, if_neg ht] at hg
      subst hg
      have he2 : List.isEmpty «to» = false := by cases «to» with | nil => exact absurd rfl ht | cons _ _ => rfl
      obtain ⟨i, rfl⟩ := Option.ne_none_iff_exists'.1 (h3 ht)
      go_enter Tryz.func113, Tryz.ntmps113
      go_upto_region 1 with fail
      rw [← HW.out]
      go_wp2_with (first
        | (at_mapUpdate; refine step_put rfl (.tmp 13) (.tmp 15) (.tmp 17) rfl b n f rfl HN.out «to» k2 rfl i rfl (by omega) ?_; intro w2 hn2 hg2 hz2)
        | fail)
      go_end0
      exact ⟨rfl, hn2, (Chg.of_below HB.out).then' (Chg.of_grown hg2 fun x e => by injection e with e; exact e.symm)⟩
  · have he1 : List.isEmpty frm = false := by cases frm with | nil => exact absurd rfl hf | cons _ _ => rfl
    by_cases ht : «to» = []
    · subst ht
      simp only [if_true, if_neg hf] at hg
      subst hg
      go_enter Tryz.func113, Tryz.ntmps113
      go_upto_region 1 with fail
      rw [← HW.out]
      go_wp2_with (first
        | (at_delete; refine step_del rfl (.tmp 7) (.tmp 9) rfl b n f rfl HN.out frm k1 rfl ?_; intro w2 hn2 hg2 hz2; have y1 := hg2.cell m1 HNB.out)
        | fail)
      go_end0
      exact ⟨rfl, hn2.mono (by omega), (Chg.of_below HB.out).then' (Chg.of_grown hg2 fun x e => by injection e with e; exact e.symm)⟩
    · simp only [if_neg ht, if_neg hf] at hg
      subst hg
      have he2 : List.isEmpty «to» = false := by cases «to» with | nil => exact absurd rfl ht | cons _ _ => rfl
      obtain ⟨i, rfl⟩ := Option.ne_none_iff_exists'.1 (h3 ht)
      go_enter Tryz.func113, Tryz.ntmps113
      go_upto_region 1 with fail
      rw [← HW.out]
      go_wp2_with (first
        | (at_delete; refine step_del rfl (.tmp 7) (.tmp 9) rfl b n f rfl HN.out frm k1 rfl ?_; intro w2 hn2 hg2 hz2; have y1 := hg2.cell m1 HNB.out; have y2 := hg2.cell m2 HNB.out)
        | (at_mapUpdate; refine step_put rfl (.tmp 13) (.tmp 15) (.tmp 17) rfl b n (Dk.upd f frm none) rfl hn2 «to» k2 rfl i rfl (by omega) ?_; intro w3 hn3 hg3 hz3)
        | fail)
      go_end0
      exact ⟨rfl, hn3, ((Chg.of_below HB.out).then' (Chg.of_grown hg2 fun x e => by injection e with e; exact e.symm)).then' (Chg.of_grown hg3 fun x e => by injection e with e; exact e.symm)⟩
end Go.Proofs.YtcmgppacipdnaaaGreatDoor
