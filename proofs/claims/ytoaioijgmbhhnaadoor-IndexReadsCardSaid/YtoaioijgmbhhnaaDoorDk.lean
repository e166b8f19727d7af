/-
  A disk as plain data: files, the names that lead to them, the names as they were synced, the moves since; what each call makes of it.
-/
import Derived.Test.YtoaioijgmbhhnaaDoorRows
namespace Go.Proofs.YtoaioijgmbhhnaaDoor.Dk

/-- A name, as its bytes. -/
abbrev Nm := List UInt8
/-- Which file a name leads to. -/
abbrev Dir := Nm → Option Nat
def upd (f : Dir) (k : Nm) (v : Option Nat) : Dir := fun x => if x = k then v else f x
theorem upd_same (f : Dir) (k : Nm) (v : Option Nat) : upd f k v k = v := by simp [upd]
theorem upd_other (f : Dir) (k x : Nm) (v : Option Nat) (h : x ≠ k) : upd f k v x = f x := by simp [upd, h]

structure File where
  born : Int
  bytes : List UInt8
  synced : Nat
deriving Inhabited

structure Mv where
  frm : Nm
  to : Nm
  file : Option Nat
deriving Inhabited

def Mv.on (m : Mv) (f : Dir) : Dir :=
  if m.to = [] then (if m.frm = [] then f else upd f m.frm none) else upd (if m.frm = [] then f else upd f m.frm none) m.to m.file
def ons (ms : List Mv) (f : Dir) : Dir := ms.foldl (fun g m => m.on g) f
theorem ons_snoc (ms : List Mv) (m : Mv) (f : Dir) : ons (ms ++ [m]) f = m.on (ons ms f) := by simp [ons]

structure St where
  room : Int
  names : Dir
  dur : Dir
  since : List Mv
  used : Int
  calls : Int
  armed : Int
  down : Bool
  files : Nat → File

def St.setFile (s : St) (i : Nat) (f : File) : St := { s with files := fun k => if k = i then f else s.files k }
theorem setFile_same (s : St) (i : Nat) (f : File) : (s.setFile i f).files i = f := by simp [St.setFile]
theorem setFile_other (s : St) (i k : Nat) (f : File) (h : k ≠ i) : (s.setFile i f).files k = s.files k := by simp [St.setFile, h]

/-- A disk as New makes it. -/
def St.new (room : Int) : St := { room := room, names := fun _ => none, dur := fun _ => none, since := [], used := 0, calls := 0, armed := 0, down := false, files := fun _ => default }

/-- What stands ahead of a call that changes. -/
def St.begin (s : St) : St := if 0 < s.armed then { s with armed := s.armed - 1, down := s.down || decide (s.armed - 1 = 0) } else s

def okByte (c : UInt8) : Bool := (97 ≤ c && c ≤ 122) || (48 ≤ c && c ≤ 57) || c == 46 || c == 45 || c == 95
def valid (n : Nm) : Bool := decide (1 ≤ n.length) && decide (n.length ≤ 64) && n.all okByte

/-- A move is done, and kept. -/
def St.doMove (s : St) (m : Mv) : St := { s with names := m.on s.names, since := s.since ++ [m], calls := s.calls + 1 }
/-- The first n moves are made durable. -/
def St.settle (s : St) (n : Nat) : St := { s with dur := ons (s.since.take n) s.dur, since := [] }
def File.keep (f : File) (n : Nat) : File := { f with bytes := f.bytes.take n, synced := n }

/-- How a call ends: which error (its number among the package's), and the disk. -/
abbrev End := Option Nat × St

def St.find (s : St) (name : Nm) : Option Nat × Option Nat :=
  if s.down then (some 9, none) else match s.names name with | none => (some 6, none) | some i => (none, some i)

def St.create (s : St) (name : Nm) (id : Nat) : End :=
  if s.begin.down then (some 9, s.begin)
  else if valid name = false then (some 5, s.begin)
  else if s.begin.names name ≠ none then (some 7, s.begin)
  else (none, (s.begin.setFile id ⟨s.begin.calls, [], 0⟩).doMove ⟨[], name, some id⟩)

def St.append (s : St) (name : Nm) (b : List UInt8) : End :=
  match s.begin.find name with
  | (some j, _) => (some j, s.begin)
  | (none, none) => (none, s.begin)
  | (none, some i) =>
    if s.begin.room - s.begin.used < b.length then (some 8, s.begin)
    else (none, { s.begin.setFile i { s.begin.files i with bytes := (s.begin.files i).bytes ++ b } with used := s.begin.used + b.length, calls := s.begin.calls + 1 })

def St.cut (s : St) (name : Nm) (n : Int) : End :=
  match s.begin.find name with
  | (some j, _) => (some j, s.begin)
  | (none, none) => (none, s.begin)
  | (none, some i) =>
    if n < 0 ∨ ((s.begin.files i).bytes.length : Int) < n then (some 4, s.begin)
    else (none, { s.begin.setFile i ((s.begin.files i).keep n.toNat) with used := s.begin.used - (((s.begin.files i).bytes.length : Int) - n), calls := s.begin.calls + 1 })

def St.sync (s : St) (name : Nm) : End :=
  match s.begin.find name with
  | (some j, _) => (some j, s.begin)
  | (none, none) => (none, s.begin)
  | (none, some i) => (none, { s.begin.setFile i ((s.begin.files i).keep (s.begin.files i).bytes.length) with calls := s.begin.calls + 1 })

def St.rename (s : St) (frm to : Nm) : End :=
  match s.begin.find frm with
  | (some j, _) => (some j, s.begin)
  | (none, none) => (none, s.begin)
  | (none, some i) =>
    if valid to = false then (some 5, s.begin)
    else
      let u := match s.begin.names to with
        | none => s.begin.used
        | some o => if o = i then s.begin.used else s.begin.used - (s.begin.files o).bytes.length
      (none, { s.begin with used := u }.doMove ⟨frm, to, some i⟩)

def St.remove (s : St) (name : Nm) : End :=
  match s.begin.find name with
  | (some j, _) => (some j, s.begin)
  | (none, none) => (none, s.begin)
  | (none, some i) => (none, { s.begin with used := s.begin.used - (s.begin.files i).bytes.length }.doMove ⟨name, [], none⟩)

def St.syncDir (s : St) : End :=
  if s.begin.down then (some 9, s.begin) else (none, { s.begin.settle s.begin.since.length with calls := s.begin.calls + 1 })

/-- The i-th pick, taken round as 0 to most. -/
def pick (picks : List Int) (i : Nat) (most : Nat) : Nat := if i < picks.length then ((picks.getD i 0) % ((most : Int) + 1)).toNat else 0
theorem pick_le (picks : List Int) (i most : Nat) : pick picks i most ≤ most := by
  unfold pick
  split
  · have h1 := Int.emod_nonneg (picks.getD i 0) (show ((most : Int) + 1) ≠ 0 by omega)
    have h2 := Int.emod_lt_of_pos (picks.getD i 0) (show (0 : Int) < (most : Int) + 1 by omega)
    omega
  · omega

/-- The files of a list are kept so far, from the i-th pick on; how many bytes that is. -/
def St.keepAll (picks : List Int) : Nat → List Nat → St → St
  | _, [], s => s
  | i, f :: fs, s =>
    let k := (s.files f).synced + pick picks i ((s.files f).bytes.length - (s.files f).synced)
    St.keepAll picks (i + 1) fs { s.setFile f ((s.files f).keep k) with used := s.used + k }
def St.crash (s : St) (picks : List Int) (order : List Nat) : St :=
  let t := s.settle (pick picks 0 s.since.length)
  let u := St.keepAll picks 1 order { t with names := t.dur, used := 0 }
  { u with armed := 0, down := false }

/-- All files that have a name, each once for each of its names. -/
def Vals (f : Dir) (l : List Nat) : Prop := ∃ ks : List Nm, ks.Nodup ∧ (∀ k, k ∈ ks ↔ f k ≠ none) ∧ l.map some = ks.map f
/-- The elder first. -/
def Order (s : St) (f : Dir) (l : List Nat) : Prop := ∃ l', Vals f l' ∧ l.Perm l' ∧ l.Pairwise fun a b => (s.files a).born ≤ (s.files b).born
end Go.Proofs.YtoaioijgmbhhnaaDoor.Dk
