/-
  A disk as plain data: files, the names that lead to them, the names as they were synced, the moves since; what each call makes of it.
  Maps of any values, as plain functions: made, looked up, stored into, struck from, and how many entries there are.
  A store of objects, plainly: what each call makes of it.
  A disk in memory: what lies where; what a call leaves of all else.
  What stands ahead of a disk's calls: the power, the file of a name, whether a name may be.
  A store of objects in memory: what lies where; what stays of it.
  A store's calls: the outcome of one, and what it answers.
  A disk's maps of names: looked up, stored into, struck from, at the operation; and whether a name may be.
  The file of a name; what is ahead of a call that changes a file; the first bytes of a file kept.
  One file of a disk is turned; its first bytes kept.
  The calls of a disk that change a file: Sync, Cut, Append.
  What a call answers: answer, bare.
  Whether a name may be, as a store asks it.
-/
import Derived.Test.YtegaahcelogmlaaGreatDoorRows
import Derived.Test.YtegaahcelogmlaaGreatDoorT1
import Derived.Maps.OwnSet
import Derived.Maps.RangeWalk
import Derived.Sort.KeysCollected
import Derived.WalkKit
import Derived.Maps.OwnIn
import Derived.Deep.QuietTactic
import Derived.BigQuiet
import Derived.Deep.Cut
import Derived.StillTailTactics
import Derived.Shelf.RegionOpen
namespace Go.Proofs.YtegaahcelogmlaaGreatDoor.Dk

/-- A name, as its bytes. -/
abbrev Nm := List UInt8
/-- Which file a name leads to. -/
abbrev Dir := Nm → Option Nat
def upd (f : Dir) (k : Nm) (v : Option Nat) : Dir := fun x => if x = k then v else f x
theorem upd_same (f : Dir) (k : Nm) (v : Option Nat) : upd f k v k = v := by simp [upd]
theorem upd_other (f : Dir) (k x : Nm) (v : Option Nat) (h : x ≠ k) : upd f k v x = f x := by simp [upd, h]

structure File where
  born : Int
  bytes : List UInt8
  synced : Nat
deriving Inhabited

structure Mv where
  frm : Nm
  to : Nm
  file : Option Nat
deriving Inhabited

def Mv.on (m : Mv) (f : Dir) : Dir :=
  if m.to = [] then (if m.frm = [] then f else upd f m.frm none) else upd (if m.frm = [] then f else upd f m.frm none) m.to m.file
def ons (ms : List Mv) (f : Dir) : Dir := ms.foldl (fun g m => m.on g) f
theorem ons_snoc (ms : List Mv) (m : Mv) (f : Dir) : ons (ms ++ [m]) f = m.on (ons ms f) := by simp [ons]

structure St where
  room : Int
  names : Dir
  dur : Dir
  since : List Mv
  used : Int
  calls : Int
  armed : Int
  down : Bool
  files : Nat → File

def St.setFile (s : St) (i : Nat) (f : File) : St := { s with files := fun k => if k = i then f else s.files k }
theorem setFile_same (s : St) (i : Nat) (f : File) : (s.setFile i f).files i = f := by simp [St.setFile]
theorem setFile_other (s : St) (i k : Nat) (f : File) (h : k ≠ i) : (s.setFile i f).files k = s.files k := by simp [St.setFile, h]

/-- A disk as New makes it. -/
def St.new (room : Int) : St := { room := room, names := fun _ => none, dur := fun _ => none, since := [], used := 0, calls := 0, armed := 0, down := false, files := fun _ => default }

/-- What stands ahead of a call that changes. -/
def St.begin (s : St) : St := if 0 < s.armed then { s with armed := s.armed - 1, down := s.down || decide (s.armed - 1 = 0) } else s

def okByte (c : UInt8) : Bool := (97 ≤ c && c ≤ 122) || (48 ≤ c && c ≤ 57) || c == 46 || c == 45 || c == 95
def valid (n : Nm) : Bool := decide (1 ≤ n.length) && decide (n.length ≤ 64) && n.all okByte

/-- A move is done, and kept. -/
def St.doMove (s : St) (m : Mv) : St := { s with names := m.on s.names, since := s.since ++ [m], calls := s.calls + 1 }
/-- The first n moves are made durable. -/
def St.settle (s : St) (n : Nat) : St := { s with dur := ons (s.since.take n) s.dur, since := [] }
def File.keep (f : File) (n : Nat) : File := { f with bytes := f.bytes.take n, synced := n }

/-- How a call ends: which error (its number among the package's), and the disk. -/
abbrev End := Option Nat × St

def St.find (s : St) (name : Nm) : Option Nat × Option Nat :=
  if s.down then (some 9, none) else match s.names name with | none => (some 6, none) | some i => (none, some i)

def St.create (s : St) (name : Nm) (id : Nat) : End :=
  if s.begin.down then (some 9, s.begin)
  else if valid name = false then (some 5, s.begin)
  else if s.begin.names name ≠ none then (some 7, s.begin)
  else (none, (s.begin.setFile id ⟨s.begin.calls, [], 0⟩).doMove ⟨[], name, some id⟩)

def St.append (s : St) (name : Nm) (b : List UInt8) : End :=
  match s.begin.find name with
  | (some j, _) => (some j, s.begin)
  | (none, none) => (none, s.begin)
  | (none, some i) =>
    if s.begin.room - s.begin.used < b.length then (some 8, s.begin)
    else (none, { s.begin.setFile i { s.begin.files i with bytes := (s.begin.files i).bytes ++ b } with used := s.begin.used + b.length, calls := s.begin.calls + 1 })

def St.cut (s : St) (name : Nm) (n : Int) : End :=
  match s.begin.find name with
  | (some j, _) => (some j, s.begin)
  | (none, none) => (none, s.begin)
  | (none, some i) =>
    if n < 0 ∨ ((s.begin.files i).bytes.length : Int) < n then (some 4, s.begin)
    else (none, { s.begin.setFile i ((s.begin.files i).keep n.toNat) with used := s.begin.used - (((s.begin.files i).bytes.length : Int) - n), calls := s.begin.calls + 1 })

def St.sync (s : St) (name : Nm) : End :=
  match s.begin.find name with
  | (some j, _) => (some j, s.begin)
  | (none, none) => (none, s.begin)
  | (none, some i) => (none, { s.begin.setFile i ((s.begin.files i).keep (s.begin.files i).bytes.length) with calls := s.begin.calls + 1 })

def St.rename (s : St) (frm to : Nm) : End :=
  match s.begin.find frm with
  | (some j, _) => (some j, s.begin)
  | (none, none) => (none, s.begin)
  | (none, some i) =>
    if valid to = false then (some 5, s.begin)
    else
      let u := match s.begin.names to with
        | none => s.begin.used
        | some o => if o = i then s.begin.used else s.begin.used - (s.begin.files o).bytes.length
      (none, { s.begin with used := u }.doMove ⟨frm, to, some i⟩)

def St.remove (s : St) (name : Nm) : End :=
  match s.begin.find name with
  | (some j, _) => (some j, s.begin)
  | (none, none) => (none, s.begin)
  | (none, some i) => (none, { s.begin with used := s.begin.used - (s.begin.files i).bytes.length }.doMove ⟨name, [], none⟩)

def St.syncDir (s : St) : End :=
  if s.begin.down then (some 9, s.begin) else (none, { s.begin.settle s.begin.since.length with calls := s.begin.calls + 1 })

/-- The i-th pick, taken round as 0 to most. -/
def pick (picks : List Int) (i : Nat) (most : Nat) : Nat := if i < picks.length then ((picks.getD i 0) % ((most : Int) + 1)).toNat else 0
theorem pick_le (picks : List Int) (i most : Nat) : pick picks i most ≤ most := by
  unfold pick
  split
  · have h1 := Int.emod_nonneg (picks.getD i 0) (show ((most : Int) + 1) ≠ 0 by omega)
    have h2 := Int.emod_lt_of_pos (picks.getD i 0) (show (0 : Int) < (most : Int) + 1 by omega)
    omega
  · omega

/-- The files of a list are kept so far, from the i-th pick on; how many bytes that is. -/
def St.keepAll (picks : List Int) : Nat → List Nat → St → St
  | _, [], s => s
  | i, f :: fs, s =>
    let k := (s.files f).synced + pick picks i ((s.files f).bytes.length - (s.files f).synced)
    St.keepAll picks (i + 1) fs { s.setFile f ((s.files f).keep k) with used := s.used + k }
def St.crash (s : St) (picks : List Int) (order : List Nat) : St :=
  let t := s.settle (pick picks 0 s.since.length)
  let u := St.keepAll picks 1 order { t with names := t.dur, used := 0 }
  { u with armed := 0, down := false }

/-- All files that have a name, each once for each of its names. -/
def Vals (f : Dir) (l : List Nat) : Prop := ∃ ks : List Nm, ks.Nodup ∧ (∀ k, k ∈ ks ↔ f k ≠ none) ∧ l.map some = ks.map f
/-- The elder first. -/
def Order (s : St) (f : Dir) (l : List Nat) : Prop := ∃ l', Vals f l' ∧ l.Perm l' ∧ l.Pairwise fun a b => (s.files a).born ≤ (s.files b).born
end Go.Proofs.YtegaahcelogmlaaGreatDoor.Dk

namespace Go.Proofs.YtegaahcelogmlaaGreatDoor
open Go.RowKit Go.Maps Go.ChangeMaps Go.MapKept

/-- Any value, as a map's element. -/
def heldE (v : Value) : Option (DataW Value × List MemPlace) := some (.held v, [])
def heldV : Option Value → DataW Value → DataW Value
  | none, z => z
  | some v, _ => .held v
theorem heldE_inv {v u : Value} {ps : List MemPlace} (h : heldE v = some (.held u, ps)) : v = u := by
  simp [heldE] at h
  exact h.1

/-- A map whose keys read by mk, of at most n entries. -/
structure MapV {κ : Type} (kt : TypeId) (mk : κ → Lit) (w : World) (b n : Nat) (f : κ → Option Value) : Prop where
  ex : ∃ D, w.ownsMap Tryz.prog kt heldE b n D ∧ ∀ k zd, D.atKey (mk k) zd = heldV (f k) zd
section
variable {κ : Type} {kt : TypeId} {mk : κ → Lit} {w w' : World} {b n : Nat} {f : κ → Option Value}
theorem MapV.mono (h : MapV kt mk w b n f) {m : Nat} (hm : n ≤ m) : MapV kt mk w b m f := by
  obtain ⟨D, h1, h2⟩ := h.ex; exact ⟨D, h1.mono hm, h2⟩
theorem MapV.lt (h : MapV kt mk w b n f) : b < w.heap.size := by
  obtain ⟨D, h1, h2⟩ := h.ex; exact h1.lt
theorem MapV.same (h : MapV kt mk w b n f) (hb : w'.heap[b]? = w.heap[b]?) : MapV kt mk w' b n f := by
  obtain ⟨D, ⟨es, clock, h1, h3⟩, h2⟩ := h.ex
  exact ⟨D, ⟨es, clock, hb.trans h1, h3⟩, h2⟩
theorem MapV.isMap (h : MapV kt mk w b n f) : ∃ es clock, w.heap[b]? = some (.map es clock) := by
  obtain ⟨D, ⟨es, clock, h1, h3⟩, h2⟩ := h.ex
  exact ⟨es, clock, h1⟩
theorem MapV.made (w : World) : MapV kt mk (w.alloc (.map #[] 0)) w.heap.size 0 (fun _ : κ => none) :=
  ⟨.map [], World.ownsMap_made _ _ _ _, fun k zd => by simp [DataW.atKey, heldV]⟩
theorem hasV {D : DataW Value} (hat : ∀ k zd, D.atKey (mk k) zd = heldV (f k) zd) (k : κ) : Maps.has D (mk k) = (f k).isSome := by
  cases hf : f k with
  | none => exact has_false_of_atKey fun z => by rw [hat, hf]; rfl
  | some v => exact has_true_of_atKey (y := .held v) fun z => by rw [hat, hf]; rfl
/-- v, ok := m[k] -/
theorem MapV.look (h : MapV kt mk w b n f) (K : Keyed Tryz.prog kt) {t e : TypeId} (ht : Tryz.prog.underlying t = some (.map kt e)) {z : Value} (hz : (zeroValue e).run Tryz.prog w = .ok z w) {key : Value} (k : κ) (hk : keyOf Tryz.prog kt key = some (mk k)) :
    (Instr.lookup t (.map (some b)) key true).run Tryz.prog w = .ok (.tuple #[(f k).getD z, .bool (f k).isSome]) w := by
  obtain ⟨D, h1, h2⟩ := h.ex
  obtain ⟨v, ps, hrun, hv⟩ := h1.look_ok K ht hz (zd := .held z) (zp := []) rfl hk
  rw [h2] at hv
  rw [hrun, hasV h2]
  have e : v = (f k).getD z := by
    cases hf : f k with
    | none => rw [hf] at hv; exact heldE_inv hv
    | some u => rw [hf] at hv; exact heldE_inv hv
  rw [e]
/-- The function that differs at one key. -/
def updV [DecidableEq κ] (f : κ → Option Value) (k : κ) (v : Option Value) : κ → Option Value := fun x => if x = k then v else f x
/-- m[k] = v -/
theorem MapV.put [DecidableEq κ] (h : MapV kt mk w b n f) (K : Keyed Tryz.prog kt) {t e : TypeId} (ht : Tryz.prog.underlying t = some (.map kt e)) (hn : n < 9223372036854775807) {key : Value} (k : κ) (hk : keyOf Tryz.prog kt key = some (mk k)) (hi : ∀ x, mk x = mk k → x = k) (v : Value) :
    ∃ w', (Instr.mapUpdate t (.map (some b)) key v).run Tryz.prog w = .ok () w' ∧ MapV kt mk w' b (n + 1) (updV f k (some v)) ∧ w.grownBy w' (some b) ∧ w'.heap.size = w.heap.size := by
  obtain ⟨D, h1, h2⟩ := h.ex
  obtain ⟨w', hrun, hown, ht'⟩ := h1.store K ht (by simp only [maxLen]; omega) hk (val := v) (d := .held v) (ps := []) rfl
  refine ⟨w', hrun, ⟨_, hown, fun x zd => ?_⟩, ht'.grown, ?_⟩
  · by_cases e : x = k
    · subst e; rw [atKey_put_same h1.isMap (K.key hk)]; simp [updV, heldV]
    · rw [atKey_put_other (fun he => e (hi _ he)), h2]; simp [updV, e]
  · obtain ⟨_, _, _, _, _, rfl⟩ := ht'; simp [setBlock]
/-- delete(m, k) -/
theorem MapV.del [DecidableEq κ] (h : MapV kt mk w b n f) (K : Keyed Tryz.prog kt) {t e : TypeId} (ht : Tryz.prog.underlying t = some (.map kt e)) {key : Value} (k : κ) (hk : keyOf Tryz.prog kt key = some (mk k)) (hi : ∀ x, mk x = mk k → x = k) (ty : TypeId) :
    ∃ w', (Builtin.delete_ #[t, kt] ty #[.map (some b), key]).run Tryz.prog w = .ok (.tuple #[]) w' ∧ MapV kt mk w' b n (updV f k none) ∧ w.grownBy w' (some b) ∧ w'.heap.size = w.heap.size := by
  obtain ⟨D, h1, h2⟩ := h.ex
  obtain ⟨w', hrun, hown, ht'⟩ := h1.drop K ht hk ty
  refine ⟨w', hrun, ⟨_, hown, fun x zd => ?_⟩, ht'.grown, ?_⟩
  · by_cases e : x = k
    · subst e; rw [atKey_del_same]; simp [updV, heldV]
    · rw [atKey_del_other (fun he => e (hi _ he)), h2]; simp [updV, e]
  · obtain ⟨_, _, _, _, _, rfl⟩ := ht'; simp [setBlock]
end

section
variable {κ : Type} [DecidableEq κ] {kt : TypeId} {mk : κ → Lit} {w : World} {ops : Array Oper} {rest : List Oper} {o : Oper} {a : Act} {Q : Exit → Act → World → Prop}
/-- delete(m, k), for the walk -/
theorem wpList_delV (hg : o.guard = none) (m x : Operand) (t e : TypeId) (hop : o.op = Op.call { callee := Callee.builtin Builtin.delete, args := #[m, x], argTypes := #[t, kt] }) (K : Keyed Tryz.prog kt) (ht : Tryz.prog.underlying t = some (.map kt e)) (b n : Nat) (f : κ → Option Value) (hm : a.eval m = .map (some b)) (h : MapV kt mk w b n f)
    (key : Value) (k : κ) (hx : a.eval x = key) (hk : keyOf Tryz.prog kt key = some (mk k)) (hi : ∀ x, mk x = mk k → x = k)
    (hK : ∀ w', MapV kt mk w' b n (updV f k none) → w.grownBy w' (some b) → w'.heap.size = w.heap.size → wpList Tryz.prog ops Q rest (a.put o.dst (.tuple #[])) w') : wpList Tryz.prog ops Q (o :: rest) a w := by
  refine wpList_plain hg fun K' hK' => ?_
  obtain ⟨w', hrun, r1, r2, r3⟩ := h.del K ht k hk hi o.type
  unfold Oper.wp
  simp [execOp, hop, resolve, invoke, builtin, hm, hx, hrun, Result.andThen]
  exact hK' _ _ (hK w' r1 r2 r3)
/-- m[k] = v, for the walk -/
theorem wpList_putV (hg : o.guard = none) (m x v : Operand) (t e : TypeId) (hop : o.op = Op.mapUpdate t m x v) (K : Keyed Tryz.prog kt) (ht : Tryz.prog.underlying t = some (.map kt e)) (b n : Nat) (f : κ → Option Value) (hm : a.eval m = .map (some b)) (h : MapV kt mk w b n f)
    (key : Value) (k : κ) (hx : a.eval x = key) (hk : keyOf Tryz.prog kt key = some (mk k)) (hi : ∀ x, mk x = mk k → x = k) (V : Value) (hv : a.eval v = V) (hn : n < 9223372036854775807)
    (hK : ∀ w', MapV kt mk w' b (n + 1) (updV f k (some V)) → w.grownBy w' (some b) → w'.heap.size = w.heap.size → wpList Tryz.prog ops Q rest (a.put o.dst undef) w') : wpList Tryz.prog ops Q (o :: rest) a w := by
  refine wpList_plain hg fun K' hK' => ?_
  obtain ⟨w', hrun, r1, r2, r3⟩ := h.put K ht hn k hk hi V
  unfold Oper.wp
  simp [execOp, hop, hm, hx, hv, hrun, Result.andThen]
  exact hK' _ _ (hK w' r1 r2 r3)
end
theorem strK : Keyed Tryz.prog 9 := string_keyed Tryz.underlying9
theorem intK : Keyed Tryz.prog 3 := int_keyed Tryz.underlying3
theorem strKey {k : List UInt8} (hk : k.length ≤ 9223372036854775807) : keyOf Tryz.prog 9 (encStr k) = some (.string k) := by
  have := Go.WideMaps.keyOf_string_mk (P := Tryz.prog) Tryz.underlying9 (s := ⟨k.toArray⟩) (by simpa [maxLen, ByteArray.size] using hk)
  simpa using this
theorem intKey {k : Int} (h : -9223372036854775808 ≤ k ∧ k ≤ 9223372036854775807) : keyOf Tryz.prog 3 (.int .i64 k) = some (.int .i64 k) :=
  keyOf_int_mk Tryz.underlying3 (by have e1 : IntKind.i64.min = -9223372036854775808 := (by decide); have e2 : IntKind.i64.max = 9223372036854775807 := (by decide); simp [Lit.wf, e1, e2]; omega)
theorem strInj (k : List UInt8) : ∀ x : List UInt8, Lit.string x = Lit.string k → x = k := fun x h => by injection h
theorem intInj (k : Int) : ∀ x : Int, Lit.int .i64 x = Lit.int .i64 k → x = k := fun x h => by injection h
/-- Maps of names; maps of numbers. -/
abbrev MapS := MapV 9 (fun k : List UInt8 => Lit.string k)
abbrev MapN := MapV 3 (fun k : Int => Lit.int .i64 k)
end Go.Proofs.YtegaahcelogmlaaGreatDoor

namespace Go.Proofs.YtegaahcelogmlaaGreatDoor.St

abbrev Nm := List UInt8
structure Up where
  name : Nm
  parts : Int → Option (List UInt8)
structure S where
  objs : Nm → Option (List UInt8)
  ups : Int → Option Up
  last : Int
  script : List Int
  calls : Int
  failed : Int
def S.new : S := ⟨fun _ => none, fun _ => none, 0, [], 0, 0⟩
/-- The outcome of the next call. -/
def S.out (s : S) : Int := s.script.headD 0
def S.took (s : S) : S := { s with script := s.script.drop 1, calls := s.calls + 1, failed := if s.out = 1 ∨ s.out = 2 then s.failed + 1 else s.failed }
/-- What a call tells that would do f, and what is then. -/
def S.ask {α : Type} (s : S) (z : α) (f : S → (α × Option Nat) × S) : (α × Option Nat) × S :=
  if s.out = 1 then ((z, some 10), s.took) else if s.out = 2 then ((z, some 10), (f s.took).2) else f s.took
def upd {κ α : Type} [DecidableEq κ] (f : κ → Option α) (k : κ) (v : Option α) : κ → Option α := fun x => if x = k then v else f x
theorem upd_same {κ α : Type} [DecidableEq κ] (f : κ → Option α) (k : κ) (v : Option α) : upd f k v k = v := by simp [upd]
theorem upd_other {κ α : Type} [DecidableEq κ] (f : κ → Option α) (k x : κ) (v : Option α) (h : x ≠ k) : upd f k v x = f x := by simp [upd, h]

def S.putF (k : Nm) (b : List UInt8) (t : S) : (Unit × Option Nat) × S := if Dk.valid k = true then (((), none), { t with objs := upd t.objs k (some b) }) else (((), some 5), t)
def S.getF (k : Nm) (off n : Int) (t : S) : (List UInt8 × Option Nat) × S :=
  match t.objs k with
  | none => (([], some 6), t)
  | some b => if off < 0 ∨ n < 0 ∨ (b.length : Int) - off < n then (([], some 4), t) else (((b.drop off.toNat).take n.toNat, none), t)
def S.headF (k : Nm) (t : S) : (List UInt8 × Option Nat) × S :=
  match t.objs k with
  | none => (([], some 6), t)
  | some b => ((b, none), t)
def S.delF (k : Nm) (t : S) : (Unit × Option Nat) × S :=
  match t.objs k with
  | none => (((), some 6), t)
  | some _ => (((), none), { t with objs := upd t.objs k none })
def S.startF (k : Nm) (t : S) : (Int × Option Nat) × S :=
  if Dk.valid k = true then ((t.last + 1, none), { t with last := t.last + 1, ups := upd t.ups (t.last + 1) (some ⟨k, fun _ => none⟩) }) else ((0, some 5), t)
def S.partF (id n : Int) (b : List UInt8) (t : S) : (Unit × Option Nat) × S :=
  match t.ups id with
  | none => (((), some 6), t)
  | some u => if n < 0 ∨ 256 ≤ n then (((), some 4), t) else (((), none), { t with ups := upd t.ups id (some { u with parts := upd u.parts n (some b) }) })
/-- The first so many parts, one behind the other. -/
def joinN (f : Int → Option (List UInt8)) : Nat → Option (List UInt8)
  | 0 => some []
  | n + 1 => match joinN f n, f (n : Int) with
    | some a, some b => some (a ++ b)
    | _, _ => none
def S.compF (id parts : Int) (t : S) : (Unit × Option Nat) × S :=
  match t.ups id with
  | none => (((), some 6), t)
  | some u => if parts < 0 ∨ 256 < parts then (((), some 4), t) else
    match joinN u.parts parts.toNat with
    | none => (((), some 4), t)
    | some b => (((), none), { t with objs := upd t.objs u.name (some b), ups := upd t.ups id none })
def S.abortF (id : Int) (t : S) : (Unit × Option Nat) × S :=
  match t.ups id with
  | none => (((), some 6), t)
  | some _ => (((), none), { t with ups := upd t.ups id none })
end Go.Proofs.YtegaahcelogmlaaGreatDoor.St

namespace Go.Proofs.YtegaahcelogmlaaGreatDoor
open Go.RowKit Go.Maps

/-- Blocks of which S does not hold lie as they lay. -/
structure Chg (S : Nat → Prop) (w w' : World) : Prop where
  os : w'.os = w.os
  tape : w'.tape = w.tape
  output : w'.output = w.output
  size : w.heap.size ≤ w'.heap.size
  block : ∀ k, k < w.heap.size → ¬ S k → w'.heap[k]? = w.heap[k]?
/-- S, and what is new since. -/
def Up (S : Nat → Prop) (w w' : World) : Nat → Prop := fun k => S k ∨ (w.heap.size ≤ k ∧ k < w'.heap.size)
theorem Chg.refl (S : Nat → Prop) (w : World) : Chg S w w := ⟨rfl, rfl, rfl, Nat.le_refl _, fun _ _ _ => rfl⟩
theorem Chg.trans {S T : Nat → Prop} {a b c : World} (h : Chg S a b) (k : Chg T b c) (hT : ∀ i, i < a.heap.size → T i → S i) : Chg S a c :=
  ⟨k.os.trans h.os, k.tape.trans h.tape, k.output.trans h.output, Nat.le_trans h.size k.size, fun i hi hn => (k.block i (Nat.lt_of_lt_of_le hi h.size) (fun t => hn (hT i hi t))).trans (h.block i hi hn)⟩
theorem Chg.up {S : Nat → Prop} {a b c : World} (h : Chg S a b) (k : Chg (Up S a b) b c) : Chg S a c := h.trans k fun i hi t => by rcases t with t | t; exact t; omega
theorem Chg.then {S : Nat → Prop} {a b c : World} (h : Chg S a b) (k : Chg S b c) : Chg S a c := h.trans k fun _ _ t => t
theorem Chg.mono {S T : Nat → Prop} {a b : World} (h : Chg S a b) (hT : ∀ i, S i → T i) : Chg T a b := ⟨h.os, h.tape, h.output, h.size, fun k hk hn => h.block k hk fun s => hn (hT k s)⟩
theorem Chg.of_below {S : Nat → Prop} {w w' : World} (h : Below w.heap.size w w') : Chg S w w' := ⟨h.os, h.tape, h.output, h.size, fun k hk _ => h.block k hk⟩
theorem Chg.of_grown {S : Nat → Prop} {w w' : World} {row : Option Nat} (h : w.grownBy w' row) (hr : ∀ k, row = some k → S k) : Chg S w w' :=
  ⟨h.os, h.tape, h.output, h.size, fun k hk hn => h.block k hk fun e => hn (hr k e.symm)⟩
theorem Chg.setCell {S : Nat → Prop} (w : World) (g i : Nat) (v : Value) (hS : S g) : Chg S w (w.setCell ⟨g, i, none⟩ v) :=
  ⟨rfl, rfl, rfl, by simp, fun k _ hn => Below.heap_setCell _ _ _ _ (by intro e; subst e; exact hn hS)⟩
theorem Chg.below {S : Nat → Prop} {w w' : World} {C : Nat} (h : Chg S w w') (hC : C ≤ w.heap.size) (hS : ∀ k, S k → C ≤ k) : Below C w w' :=
  ⟨h.os, h.tape, h.output, h.size, fun k hk => h.block k (by omega) fun s => by have := hS k s; omega⟩
theorem Chg.cell {S : Nat → Prop} {w w' : World} (h : Chg S w w') {b o : Nat} {v : Value} (hc : w.cell? ⟨b, o, none⟩ = some v) (hn : ¬ S b) : w'.cell? ⟨b, o, none⟩ = some v := by
  have hb := h.block b (World.block_lt_of_cell? w _ hc) hn
  simpa [World.cell?, hb] using hc
theorem up_self {S : Nat → Prop} {a b : World} : ∀ k, S k → Up S a b k := fun _ h => .inl h
theorem up_up {S : Nat → Prop} {a b c : World} (h1 : a.heap.size ≤ b.heap.size) (h2 : b.heap.size ≤ c.heap.size) : ∀ k, Up (Up S a b) b c k → Up S a c k := by
  rintro k ((h | h) | h)
  · exact .inl h
  · exact .inr (by omega)
  · exact .inr (by omega)

/-- A pointer to a file, as a map's element. -/
def ptrE (v : Value) : Option (DataW Unit × List MemPlace) :=
  match v with
  | .pointer none => some (.lit (.int .i64 (-1)), [])
  | .pointer (some ⟨b, 0, none⟩) => some (.lit (.int .i64 b), [])
  | _ => none
def fileV : Option Nat → Value
  | none => .pointer none
  | some i => .pointer (some ⟨i, 0, none⟩)
def fileD : Option Nat → DataW Unit → DataW Unit
  | none, z => z
  | some i, _ => .lit (.int .i64 (i : Int))
theorem ptrE_file (i : Nat) : ptrE (fileV (some i)) = some (.lit (.int .i64 (i : Int)), []) := rfl
theorem ptrE_nil : ptrE (.pointer none) = some (.lit (.int .i64 (-1)), []) := rfl
/-- What reads so is that file's pointer. -/
theorem ptrE_inv {v : Value} {f : Option Nat} {ps : List MemPlace} (h : ptrE v = some (fileD f (.lit (.int .i64 (-1))), ps)) : v = fileV f := by
  unfold ptrE at h
  split at h
  · cases f with
    | none => rfl
    | some i => simp [fileD] at h <;> omega
  · rename_i b
    cases f with
    | none => simp [fileD] at h <;> omega
    | some i =>
      simp [fileD] at h
      obtain ⟨h, _⟩ := h
      have : b = i := by omega
      subst this
      rfl
  · cases h

/-- A map from names to files. -/
structure NamesAt (w : World) (b n : Nat) (f : Dk.Dir) : Prop where
  ex : ∃ D, w.ownsMap Tryz.prog 9 ptrE b n D ∧ ∀ k zd, D.atKey (.string k) zd = fileD (f k) zd
theorem str_law : Keyed Tryz.prog 9 := string_keyed Tryz.underlying9
theorem NamesAt.mono {w : World} {b n m : Nat} {f : Dk.Dir} (h : NamesAt w b n f) (hm : n ≤ m) : NamesAt w b m f := by
  obtain ⟨D, h1, h2⟩ := h.ex; exact ⟨D, h1.mono hm, h2⟩
theorem NamesAt.lt {w : World} {b n : Nat} {f : Dk.Dir} (h : NamesAt w b n f) : b < w.heap.size := by
  obtain ⟨D, h1, _⟩ := h.ex; exact h1.lt
theorem NamesAt.same {w w' : World} {b n : Nat} {f : Dk.Dir} (h : NamesAt w b n f) (hb : w'.heap[b]? = w.heap[b]?) : NamesAt w' b n f := by
  obtain ⟨D, ⟨es, clock, h1, h3⟩, h2⟩ := h.ex
  exact ⟨D, ⟨es, clock, hb.trans h1, h3⟩, h2⟩
theorem NamesAt.made (w : World) : NamesAt (w.alloc (.map #[] 0)) w.heap.size 0 (fun _ => none) :=
  ⟨.map [], World.ownsMap_made _ _ _ _, fun k zd => by simp [DataW.atKey, fileD]⟩
end Go.Proofs.YtegaahcelogmlaaGreatDoor
namespace Go.Proofs.YtegaahcelogmlaaGreatDoor
open Go.RowKit Go.Maps

def mvCells (m : Dk.Mv) : List Value := [encStr m.frm, encStr m.to, fileV m.file]
def diskCells (s : Dk.St) (nb db : Nat) (sv : Value) : Array Value :=
  #[.int .i64 s.room, .map (some nb), .map (some db), sv, .int .i64 s.used, .int .i64 s.calls, .int .i64 s.armed, .bool s.down]

theorem ownsRow_same {w w' : World} {base : Nat} {e : TypeId} {size : Nat} {v : Value} {n : Nat} {xs : List Value} (h : w.ownsRow base e size v n xs) (hb : ∀ g, v.ownBlock = some g → w'.heap[g]? = w.heap[g]?) : w'.ownsRow base e size v n xs := by
  refine ⟨h.1, ?_⟩
  rcases h.2 with h2 | ⟨g, cap, cur, rfl, hg, hh, r⟩
  · exact .inl h2
  · exact .inr ⟨g, cap, cur, rfl, hg, (hb g rfl).trans hh, r⟩
end Go.Proofs.YtegaahcelogmlaaGreatDoor

namespace Go.Proofs.YtegaahcelogmlaaGreatDoor
open Go.RowKit Go.Maps

/-- An error that is nil, or one of the package's. -/
def errR (p : Nat → Addr) : Option Nat → Value
  | none => .nilIface
  | some j => errV (p j)
/-- The errors that a disk tells. -/
abbrev SentsD (w : World) (p : Nat → Addr) : Prop := SentsOn (fun j => 4 ≤ j ∧ j ≤ 9) w p
theorem SentsD.c9 {w : World} {p : Nat → Addr} (h : SentsD w p) : w.cell? ⟨12, 0, none⟩ = some (errV (p 9)) := h.cell 9 (by omega)
theorem SentsD.c8 {w : World} {p : Nat → Addr} (h : SentsD w p) : w.cell? ⟨11, 0, none⟩ = some (errV (p 8)) := h.cell 8 (by omega)
theorem SentsD.c7 {w : World} {p : Nat → Addr} (h : SentsD w p) : w.cell? ⟨10, 0, none⟩ = some (errV (p 7)) := h.cell 7 (by omega)
theorem SentsD.c6 {w : World} {p : Nat → Addr} (h : SentsD w p) : w.cell? ⟨2, 0, none⟩ = some (errV (p 6)) := h.cell 6 (by omega)
theorem SentsD.c5 {w : World} {p : Nat → Addr} (h : SentsD w p) : w.cell? ⟨1, 0, none⟩ = some (errV (p 5)) := h.cell 5 (by omega)
theorem SentsD.c4 {w : World} {p : Nat → Addr} (h : SentsD w p) : w.cell? ⟨0, 0, none⟩ = some (errV (p 4)) := h.cell 4 (by omega)

theorem box_cell {w : World} {b : Nat} {c : Array Value} {t : TypeId} {fz : Nat × Nat} (h : w.heap[b]? = some (.cells c t fz)) (k : Nat) : w.cell? ⟨b, k, none⟩ = c[k]? := by simp [World.cell?, h]
theorem box_free {w : World} {b : Nat} {c : Array Value} {t : TypeId} (h : w.heap[b]? = some (.cells c t (0, 0))) (k : Nat) : w.frozen? ⟨b, k, none⟩ = false := by simp [World.frozen?, h]

end Go.Proofs.YtegaahcelogmlaaGreatDoor

namespace Go.Proofs.YtegaahcelogmlaaGreatDoor
open Go.RowKit Go.Maps

/-- Bytes that lie in memory, in a block of which D holds. -/
def DataAt (w : World) (D : Nat → Prop) (v : Value) (l : List UInt8) : Prop :=
  ∃ A c, v = .slice A l.length c ∧ l.length ≤ c ∧ c ≤ 9223372036854775807 ∧ l.length ≤ 1000000000 ∧ (A = none → c = 0) ∧ Reads w A l ∧ ∀ a, A = some a → l ≠ [] → D a.block ∧ a.block < w.heap.size
def Both {α β : Type} (R : α → β → Prop) : Option α → Option β → Prop
  | none, none => True
  | some a, some b => R a b
  | _, _ => False
theorem Both.imp {α β : Type} {R T : α → β → Prop} (hi : ∀ a b, R a b → T a b) : ∀ {x : Option α} {y : Option β}, Both R x y → Both T x y
  | none, none, _ => trivial
  | some _, some _, h => hi _ _ h
  | none, some _, h => h
  | some _, none, h => h
theorem Reads.kept {w w' : World} {A : Option Addr} {l : List UInt8} (h : Reads w A l) (hs : w.heap.size ≤ w'.heap.size) (hk : ∀ a, A = some a → l ≠ [] → w'.heap[a.block]? = w.heap[a.block]?) : Reads w' A l := by
  rcases h with h | ⟨b, off, e, hlt, hc⟩
  · exact .inl h
  · by_cases hl : l = []
    · exact .inl hl
    · refine .inr ⟨b, off, e, Nat.lt_of_lt_of_le hlt hs, fun k hkl => ?_⟩
      have := hk _ e hl
      rw [← hc k hkl]
      simp only [World.cell?, this]
theorem DataAt.kept {w w' : World} {D : Nat → Prop} {v : Value} {l : List UInt8} (h : DataAt w D v l) (hs : w.heap.size ≤ w'.heap.size) (hk : ∀ k, D k → k < w.heap.size → w'.heap[k]? = w.heap[k]?) : DataAt w' D v l := by
  obtain ⟨A, c, e, h1, h2, h3, h4, h5, h6⟩ := h
  exact ⟨A, c, e, h1, h2, h3, h4, h5.kept hs fun a ha hl => hk _ (h6 a ha hl).1 (h6 a ha hl).2, fun a ha hl => ⟨(h6 a ha hl).1, Nat.lt_of_lt_of_le (h6 a ha hl).2 hs⟩⟩
theorem DataAt.mono {w : World} {D E : Nat → Prop} {v : Value} {l : List UInt8} (h : DataAt w D v l) (hD : ∀ k, D k → E k) : DataAt w E v l := by
  obtain ⟨A, c, e, h1, h2, h3, h4, h5, h6⟩ := h
  exact ⟨A, c, e, h1, h2, h3, h4, h5, fun a ha hl => ⟨hD _ (h6 a ha hl).1, (h6 a ha hl).2⟩⟩

/-- The outcomes that are still to come, in a row of which S holds. -/
def ScrAt (w : World) (S : Nat → Prop) (v : Value) (l : List Int) : Prop :=
  (v = .slice none 0 0 ∧ l = []) ∨ ∃ g off c cs, v = .slice (some ⟨g, off, none⟩) l.length c ∧ S g ∧ w.heap[g]? = some (.cells cs 3 (0, 0)) ∧ off + c ≤ cs.size ∧ l.length ≤ c ∧ c ≤ 9223372036854775807 ∧ (∀ j, j < l.length → cs[off + j]? = some (.int .i64 (l.getD j 0))) ∧ ∀ z ∈ l, -9223372036854775808 ≤ z ∧ z ≤ 9223372036854775807
theorem ScrAt.kept {w w' : World} {S : Nat → Prop} {v : Value} {l : List Int} (h : ScrAt w S v l) (hk : ∀ k, S k → k < w.heap.size → (∃ cs, w.heap[k]? = some (.cells cs 3 (0, 0))) → w'.heap[k]? = w.heap[k]?) : ScrAt w' S v l := by
  rcases h with h | ⟨g, off, c, cs, e, hg, hh, h1, h2, h3, h4, h5⟩
  · exact .inl h
  · exact .inr ⟨g, off, c, cs, e, hg, (hk g hg (Array.getElem?_eq_some_iff.1 hh).1 ⟨cs, hh⟩).trans hh, h1, h2, h3, h4, h5⟩
theorem ScrAt.mono {w : World} {S T : Nat → Prop} {v : Value} {l : List Int} (h : ScrAt w S v l) (hS : ∀ k, S k → T k) : ScrAt w T v l := by
  rcases h with h | ⟨g, off, c, cs, e, hg, r⟩
  · exact .inl h
  · exact .inr ⟨g, off, c, cs, e, hS _ hg, r⟩

def stCells (s : St.S) (ob ub : Nat) (sv : Value) : Array Value := #[.map (some ob), .map (some ub), .int .i64 s.last, sv, .int .i64 s.calls, .int .i64 s.failed]
def upV (pb : Int → Nat) (s : St.S) (i : Int) : Option Value := (s.ups i).map fun u => .agg #[encStr u.name, .map (some (pb i))]

/-- A store at its block sb; S holds of the blocks that it writes into, D of those where bytes lie. -/
structure StoreL (w : World) (sb ob ub : Nat) (sv : Value) (ov : St.Nm → Option Value) (pb : Int → Nat) (pv : Int → Int → Option Value) (s : St.S) (m : Nat) (S D : Nat → Prop) : Prop where
  box : w.heap[sb]? = some (.cells (stCells s ob ub sv) 51 (0, 0))
  objs : MapS w ob m ov
  oat : ∀ k, Both (DataAt w D) (ov k) (s.objs k)
  ups : MapN w ub m (upV pb s)
  parts : ∀ i u, s.ups i = some u → MapN w (pb i) m (pv i) ∧ (∀ n, Both (DataAt w D) (pv i n) (u.parts n)) ∧ S (pb i) ∧ pb i ≠ ob ∧ pb i ≠ ub ∧ 1 ≤ i ∧ i ≤ s.last ∧ u.name.length ≤ 64
  inj : ∀ i j, s.ups i ≠ none → s.ups j ≠ none → pb i = pb j → i = j
  ne : ob ≠ ub
  scr : ScrAt w S sv s.script
  msb : S sb
  mob : S ob
  mub : S ub
  sd : ∀ k, S k → ¬ D k
  lt : ∀ k, S k ∨ D k → k < w.heap.size
  keys : ∀ k, s.objs k ≠ none → k.length ≤ 64
  last : 0 ≤ s.last ∧ s.last ≤ m
def IsStore (w : World) (sb : Nat) (s : St.S) (m : Nat) (S D : Nat → Prop) : Prop := ∃ ob ub sv ov pb pv, StoreL w sb ob ub sv ov pb pv s m S D

section
variable {w w' : World} {sb ob ub : Nat} {sv : Value} {ov : St.Nm → Option Value} {pb : Int → Nat} {pv : Int → Int → Option Value} {s : St.S} {m : Nat} {S D : Nat → Prop}
theorem StoreL.kept (h : StoreL w sb ob ub sv ov pb pv s m S D) (hs : w.heap.size ≤ w'.heap.size) (hk : ∀ k, S k ∨ D k → k < w.heap.size → w'.heap[k]? = w.heap[k]?) : StoreL w' sb ob ub sv ov pb pv s m S D := by
  have lt : ∀ {k : Nat} {o : Obj}, w.heap[k]? = some o → k < w.heap.size := fun h => (Array.getElem?_eq_some_iff.1 h).1
  have hD := fun (v : Value) (l : List UInt8) (h : DataAt w D v l) => h.kept hs fun k hk' hl => hk k (.inr hk') hl
  exact { h with
    box := (hk _ (.inl h.msb) (lt h.box)).trans h.box
    objs := h.objs.same (hk _ (.inl h.mob) h.objs.lt)
    oat := fun k => (h.oat k).imp hD
    ups := h.ups.same (hk _ (.inl h.mub) h.ups.lt)
    parts := fun i u hu => by
      obtain ⟨p1, p2, p3, p4⟩ := h.parts i u hu
      exact ⟨p1.same (hk _ (.inl p3) p1.lt), fun n => (p2 n).imp hD, p3, p4⟩
    lt := fun k hk => Nat.lt_of_lt_of_le (h.lt k hk) hs
    scr := h.scr.kept fun k hS hl _ => hk k (.inl hS) hl }
theorem StoreL.mono {n : Nat} {T E : Nat → Prop} (h : StoreL w sb ob ub sv ov pb pv s m S D) (hn : m ≤ n) (hS : ∀ k, S k → T k) (hD : ∀ k, D k → E k) (hTE : ∀ k, T k → ¬ E k) (hlt : ∀ k, T k ∨ E k → k < w.heap.size) : StoreL w sb ob ub sv ov pb pv s n T E :=
  { h with
    objs := h.objs.mono hn
    oat := fun k => (h.oat k).imp fun _ _ x => x.mono hD
    ups := h.ups.mono hn
    parts := fun i u hu => by
      obtain ⟨p1, p2, p3, p4⟩ := h.parts i u hu
      exact ⟨p1.mono hn, fun n => (p2 n).imp fun _ _ x => x.mono hD, hS _ p3, p4⟩
    scr := h.scr.mono hS
    msb := hS _ h.msb
    mob := hS _ h.mob
    mub := hS _ h.mub
    sd := hTE
    lt := hlt
    last := ⟨h.last.1, by have := h.last.2; omega⟩ }
/-- The store's own box is written, and maybe its script's row: its numbers and its script may be others. -/
theorem StoreL.boxed {T : Nat → Prop} (h : StoreL w sb ob ub sv ov pb pv s m S D) {sv' : Value} {s' : St.S} {m' : Nat} (hb : w'.heap[sb]? = some (.cells (stCells s' ob ub sv') 51 (0, 0))) (hs : w.heap.size ≤ w'.heap.size)
    (ho : ∀ k, k ≠ sb → k < w.heap.size → ¬ (S k ∧ ∃ cs, w.heap[k]? = some (.cells cs 3 (0, 0))) → w'.heap[k]? = w.heap[k]?) (hST : ∀ k, S k → T k) (hTU : ∀ k, T k → Up S w w' k)
    (h1 : s'.objs = s.objs) (h2 : s'.ups = s.ups) (h3 : ScrAt w' T sv' s'.script) (h4 : s.last ≤ s'.last) (h5 : s'.last ≤ m') (hm : m ≤ m') : StoreL w' sb ob ub sv' ov pb pv s' m' T D := by
  have nmap : ∀ k es clock, w.heap[k]? = some (.map es clock) → k ≠ sb := fun k es clock hk e => by
    subst e; rw [h.box] at hk; cases hk
  have hnD : ∀ k, D k → k ≠ sb := fun k hk e => by subst e; exact h.sd _ h.msb hk
  have hD := fun (v : Value) (l : List UInt8) (hd : DataAt w D v l) => hd.kept hs fun k hk' hl => ho k (hnD k hk') hl fun hx => h.sd _ hx.1 hk'
  have hmp : ∀ {κ : Type} {kt : TypeId} {mk : κ → Lit} {b : Nat} {f : κ → Option Value}, MapV kt mk w b m f → MapV kt mk w' b m' f := fun hmap => by
    obtain ⟨es, clock, he⟩ := hmap.isMap
    exact (hmap.same (ho _ (nmap _ _ _ he) hmap.lt fun hx => by obtain ⟨cs, hcs⟩ := hx.2; rw [he] at hcs; cases hcs)).mono hm
  have eup : upV pb s' = upV pb s := by funext i; simp [upV, h2]
  refine ⟨hb, hmp h.objs, fun k => ?_, ?_, fun i u hu => ?_, ?_, h.ne, h3, hST _ h.msb, hST _ h.mob, hST _ h.mub, fun k hk hd => ?_, fun k hk => ?_, ?_, ⟨by have := h.last.1; omega, h5⟩⟩
  · rw [h1]; exact (h.oat k).imp hD
  · rw [eup]; exact hmp h.ups
  · rw [h2] at hu
    obtain ⟨p1, p2, p3, p4, p5, p6, p7, p8⟩ := h.parts i u hu
    exact ⟨hmp p1, fun n => (p2 n).imp hD, hST _ p3, p4, p5, p6, Int.le_trans p7 h4, p8⟩
  · rw [h2]; exact h.inj
  · rcases hTU k hk with hk | hk
    · exact h.sd k hk hd
    · have := h.lt k (.inr hd); omega
  · rcases hk with hk | hk
    · rcases hTU k hk with hk | hk
      · have := h.lt k (.inl hk); omega
      · exact hk.2
    · have := h.lt k (.inr hk); omega
  · rw [h1]; exact h.keys
end
theorem IsStore.kept {w w' : World} {sb : Nat} {s : St.S} {m : Nat} {S D : Nat → Prop} (h : IsStore w sb s m S D) (hs : w.heap.size ≤ w'.heap.size) (hk : ∀ k, S k ∨ D k → k < w.heap.size → w'.heap[k]? = w.heap[k]?) : IsStore w' sb s m S D := by
  obtain ⟨ob, ub, sv, ov, pb, pv, h⟩ := h; exact ⟨ob, ub, sv, ov, pb, pv, h.kept hs hk⟩
theorem IsStore.below {w w' : World} {sb : Nat} {s : St.S} {m : Nat} {S D : Nat → Prop} (h : IsStore w sb s m S D) (hb : Below w.heap.size w w') : IsStore w' sb s m S D := h.kept hb.size fun k _ hl => hb.block k hl
theorem IsStore.mono {w : World} {sb : Nat} {s : St.S} {m n : Nat} {S D T E : Nat → Prop} (h : IsStore w sb s m S D) (hn : m ≤ n) (hS : ∀ k, S k → T k) (hD : ∀ k, D k → E k) (hTE : ∀ k, T k → ¬ E k) (hlt : ∀ k, T k ∨ E k → k < w.heap.size) : IsStore w sb s n T E := by
  obtain ⟨ob, ub, sv, ov, pb, pv, h⟩ := h; exact ⟨ob, ub, sv, ov, pb, pv, h.mono hn hS hD hTE hlt⟩
end Go.Proofs.YtegaahcelogmlaaGreatDoor

namespace Go.Proofs.YtegaahcelogmlaaGreatDoor
open Go.RowKit Go.Maps

theorem ScrAt.val {w : World} {S : Nat → Prop} {v : Value} {l : List Int} (h : ScrAt w S v l) : ∃ A c, v = .slice A l.length c := by
  rcases h with ⟨rfl, rfl⟩ | ⟨g, off, c, cs, rfl, _⟩
  · exact ⟨_, _, rfl⟩
  · exact ⟨_, _, rfl⟩
theorem ScrAt.tail {w : World} {S : Nat → Prop} {v : Value} {z : Int} {l : List Int} (h : ScrAt w S v (z :: l)) :
    ∃ g off c, v = .slice (some ⟨g, off, none⟩) (l.length + 1) (c + 1) ∧ S g ∧ w.cell? ⟨g, off, none⟩ = some (.int .i64 z) ∧ (∀ off', (c ≠ 0 → off' = off + 1) → (c = 0 → off' = off) → ScrAt w S (.slice (some ⟨g, off', none⟩) l.length c) l) ∧ l.length ≤ c ∧ c + 1 ≤ 9223372036854775807 ∧ ∃ cs, w.heap[g]? = some (.cells cs 3 (0, 0)) := by
  rcases h with ⟨_, h⟩ | ⟨g, off, c, cs, rfl, hg, hh, h1, h2, h3, h4, h5⟩
  · cases h
  · simp only [List.length_cons] at h2
    obtain ⟨c, rfl⟩ : ∃ c', c = c' + 1 := ⟨c - 1, by omega⟩
    refine ⟨g, off, c, rfl, hg, ?_, fun off' e1 e2 => .inr ⟨g, off', c, cs, rfl, hg, hh, ?_, by omega, by omega, fun j hj => ?_, fun x hx => h5 x (List.mem_cons_of_mem _ hx)⟩, by omega, by omega, cs, hh⟩
    · have := h4 0 (by simp)
      simp only [Nat.add_zero, List.getD_cons_zero] at this
      rw [box_cell hh]; exact this
    · by_cases hc : c = 0
      · rw [e2 hc]; omega
      · rw [e1 hc]; omega
    · have := h4 (j + 1) (by simp; omega)
      rw [e1 (by omega), show off + 1 + j = off + (j + 1) by omega, this]
      simp
theorem heap_set {w : World} {sb : Nat} {cs : Array Value} {t : TypeId} (h : w.heap[sb]? = some (.cells cs t (0, 0))) (i : Nat) (v : Value) : (w.setCell ⟨sb, i, none⟩ v).heap[sb]? = some (.cells (cs.setIfInBounds i v) t (0, 0)) := heap_setCell_same w sb i _ _ v h

theorem Chg.box (w : World) (g i : Nat) (v : Value) : Chg (fun k => k = g) w (w.setCell ⟨g, i, none⟩ v) := Chg.setCell (S := fun k => k = g) w g i v rfl
/-- A world in which the outcome of a call has been taken. -/
structure Took (sb ob ub : Nat) (ov : St.Nm → Option Value) (pb : Int → Nat) (pv : Int → Int → Option Value) (s : St.S) (m : Nat) (S D : Nat → Prop) (w w1 : World) : Prop where
  st : ∃ sv, StoreL w1 sb ob ub sv ov pb pv s.took m S D
  chg : Chg (fun k => k = sb) w w1

theorem StoreL.took {w W : World} {sb ob ub : Nat} {sv sv' : Value} {ov : St.Nm → Option Value} {pb : Int → Nat} {pv : Int → Int → Option Value} {s : St.S} {m : Nat} {S D : Nat → Prop} (h : StoreL w sb ob ub sv ov pb pv s m S D)
    (hb : W.heap[sb]? = some (.cells (stCells s.took ob ub sv') 51 (0, 0))) (hc : Chg (fun k => k = sb) w W) (hscr : ScrAt w S sv' s.took.script) : Took sb ob ub ov pb pv s m S D w W :=
  ⟨⟨sv', h.boxed hb hc.size (fun k hk hl _ => hc.block k hl hk) (fun _ h => h) (fun _ h => .inl h) rfl rfl (hscr.kept fun k _ hl ⟨cs, hcs⟩ => hc.block k hl fun e => by subst e; rw [h.box] at hcs; injection hcs with hcs; injection hcs with _ hcs _; exact absurd hcs (by decide)) (Int.le_refl _) h.last.2 (Nat.le_refl _)⟩, hc⟩

set_option maxRecDepth 100000 in
set_option maxHeartbeats 1000000 in
theorem stTake_any {w : World} {sb ob ub : Nat} {sv : Value} {ov : St.Nm → Option Value} {pb : Int → Nat} {pv : Int → Int → Option Value} {s : St.S} {m : Nat} {S D : Nat → Prop} (h : StoreL w sb ob ub sv ov pb pv s m S D) (hc : 0 ≤ s.calls ∧ s.calls ≤ 1000000000) (hf : 0 ≤ s.failed ∧ s.failed ≤ 1000000000) :
    Calls Tryz.prog 81 #[.pointer (some ⟨sb, 0, none⟩)] w fun e w' => e = .returned (.int .i64 s.out) ∧ Took sb ob ub ov pb pv s m S D w w' := by
  have c4 : w.cell? ⟨sb, 4, none⟩ = some (.int .i64 s.calls) := box_cell h.box 4
  have c3 : w.cell? ⟨sb, 3, none⟩ = some sv := box_cell h.box 3
  have c5 : w.cell? ⟨sb, 5, none⟩ = some (.int .i64 s.failed) := box_cell h.box 5
  have f4 := box_free h.box 4
  have f3 := box_free h.box 3
  have f5 := box_free h.box 5
  have w1 : IntKind.i64.wrap (s.calls + 1) = s.calls + 1 := IntWalk.i64_in _ (by omega)
  have w2 : IntKind.i64.wrap (s.failed + 1) = s.failed + 1 := IntWalk.i64_in _ (by omega)
  have HH := hide h
  have hscr := h.scr
  have HB := hide h.box
  rcases hs : s.script with _ | ⟨z, l⟩
  · rw [hs] at hscr
    have HSC := hide hscr
    obtain ⟨A, c, rfl⟩ := hscr.val
    have ho : s.out = 0 := by simp [St.S.out, hs]
    have HS := hide hs
    have HO := hide ho
    clear h hscr hs ho
    go_enter Tryz.func81, Tryz.ntmps81
    go_wp2_with fail
    go_ret
    refine ⟨by rw [HO.out]; rfl, HH.out.took (sv' := .slice A 0 c) ?_ (Chg.box _ _ _ _) (by rw [show s.took.script = [] by simp [St.S.took, HS.out]]; exact HSC.out)⟩
    rw [heap_set HB.out]
    simp [stCells, St.S.took, HO.out]
  · rw [hs] at hscr
    obtain ⟨g, off, c, rfl, hg, hcell, htail, hle, hmx, cs, hgb⟩ := hscr.tail
    have ho : s.out = z := by simp [St.S.out, hs]
    have hts : s.took.script = l := by simp [St.S.took, hs]
    have HTS := hide hts
    have HO := hide ho
    have HT := hide htail
    have hgs : g ≠ sb := fun e => by
      subst e
      rw [h.box] at hgb; injection hgb with hgb; injection hgb with _ hgb _; exact absurd hgb (by decide)
    have hcell2 : (w.setCell ⟨sb, 4, none⟩ (.int .i64 (s.calls + 1))).cell? ⟨g, off, none⟩ = some (.int .i64 z) := by
      rw [World.cell?_of_block (a := ⟨g, off, none⟩) (Below.heap_setCell _ _ _ _ hgs)]; exact hcell
    have HFA : Hid (∀ W v, W = (((w.setCell ⟨sb, 4, none⟩ (.int .i64 (s.calls + 1))).setCell ⟨sb, 3, none⟩ v).setCell ⟨sb, 5, none⟩ (.int .i64 (s.failed + 1))) → z = 1 ∨ z = 2 → ScrAt w S v l → Took sb ob ub ov pb pv s m S D w W) := hide (fun W v e hz hv => by
      subst e
      refine HH.out.took (sv' := v) ?_ (((Chg.box _ _ _ _).then (Chg.box _ _ _ _)).then (Chg.box _ _ _ _)) (by rw [hts]; exact hv)
      rw [heap_set (heap_set (heap_set HB.out 4 _) 3 _) 5 _]
      simp [stCells, St.S.took, HO.out, hz])
    have HFB : Hid (∀ W v, W = ((w.setCell ⟨sb, 4, none⟩ (.int .i64 (s.calls + 1))).setCell ⟨sb, 3, none⟩ v) → ¬ (z = 1 ∨ z = 2) → ScrAt w S v l → Took sb ob ub ov pb pv s m S D w W) := hide (fun W v e hz hv => by
      subst e
      refine HH.out.took (sv' := v) ?_ ((Chg.box _ _ _ _).then (Chg.box _ _ _ _)) (by rw [hts]; exact hv)
      rw [heap_set (heap_set HB.out 4 _) 3 _]
      simp [stCells, St.S.took, HO.out, hz])
    clear h hscr hs ho htail hts hgb
    generalize hn : l.length = n at *
    have HN := hide hn
    clear hn
    by_cases h1 : z = 1
    · have HZ := hide h1
      subst h1
      by_cases hc0 : c = 0
      · subst hc0
        obtain rfl : n = 0 := by omega
        go_enter Tryz.func81, Tryz.ntmps81
        go_wp2_with fail
        go_ret
        exact ⟨by rw [HO.out]; rfl, HFA.out _ _ rfl (.inl (by trivial)) (HT.out off (fun h => absurd rfl h) fun _ => rfl)⟩
      · go_enter Tryz.func81, Tryz.ntmps81
        go_wp2_with fail
        go_ret
        exact ⟨by rw [HO.out]; rfl, HFA.out _ _ rfl (.inl (by trivial)) (HT.out (off + 1) (fun _ => rfl) fun h => absurd h hc0)⟩
    · have e1 : (z == 1) = false := by simpa using h1
      by_cases h2 : z = 2
      · subst h2
        by_cases hc0 : c = 0
        · subst hc0
          obtain rfl : n = 0 := by omega
          go_enter Tryz.func81, Tryz.ntmps81
          go_wp2_with fail
          go_ret
          exact ⟨by rw [HO.out]; rfl, HFA.out _ _ rfl (.inr (by trivial)) (HT.out off (fun h => absurd rfl h) fun _ => rfl)⟩
        · go_enter Tryz.func81, Tryz.ntmps81
          go_wp2_with fail
          go_ret
          exact ⟨by rw [HO.out]; rfl, HFA.out _ _ rfl (.inr (by trivial)) (HT.out (off + 1) (fun _ => rfl) fun h => absurd h hc0)⟩
      · have e2 : (z == 2) = false := by simpa using h2
        have HNZ := hide (show ¬ (z = 1 ∨ z = 2) by omega)
        clear h1 h2
        by_cases hc0 : c = 0
        · subst hc0
          obtain rfl : n = 0 := by omega
          go_enter Tryz.func81, Tryz.ntmps81
          go_wp2_with fail
          go_ret
          exact ⟨by rw [HO.out]; rfl, HFB.out _ _ rfl HNZ.out (HT.out off (fun h => absurd rfl h) fun _ => rfl)⟩
        · go_enter Tryz.func81, Tryz.ntmps81
          go_wp2_with fail
          go_ret
          exact ⟨by rw [HO.out]; rfl, HFB.out _ _ rfl HNZ.out (HT.out (off + 1) (fun _ => rfl) fun h => absurd h hc0)⟩
end Go.Proofs.YtegaahcelogmlaaGreatDoor

namespace Go.Proofs.YtegaahcelogmlaaGreatDoor
open Go.RowKit Go.Maps Go.ChangeMaps Go.MapKept

theorem str_key {k : Dk.Nm} (hk : k.length ≤ 9223372036854775807) : keyOf Tryz.prog 9 (encStr k) = some (.string k) := by
  have := Go.WideMaps.keyOf_string_mk (P := Tryz.prog) Tryz.underlying9 (s := ⟨k.toArray⟩) (by simpa [maxLen, ByteArray.size] using hk)
  simpa using this
end Go.Proofs.YtegaahcelogmlaaGreatDoor
namespace Go.Proofs.YtegaahcelogmlaaGreatDoor
open Go.RowKit

theorem str_at (k : Dk.Nm) (i : Nat) (h : i < k.length) (W : World) : (Instr.index 9 (encStr k) (.int .i64 (i : Int))).run Tryz.prog W = .ok (.int .u8 (B (k.getD i 0))) W := by
  have hg : (⟨k.toArray⟩ : ByteArray)[i]? = some k[i] := by
    rw [getElem?_pos (⟨k.toArray⟩ : ByteArray) i (by simpa [ByteArray.size] using h)]
    rfl
  simp [Instr.index, run_underlying Tryz.underlying9, asIntOf, hg, B, List.getD, h]

theorem okByte_iff (c : UInt8) : Dk.okByte c = true ↔ (97 ≤ B c ∧ B c ≤ 122) ∨ (48 ≤ B c ∧ B c ≤ 57) ∨ B c = 46 ∨ B c = 45 ∨ B c = 95 := by
  unfold Dk.okByte B
  simp [UInt8.le_iff_toNat_le, ← UInt8.toNat_inj]
  omega
theorem all_take (k : Dk.Nm) (j : Nat) (hj : j < k.length) (h : (k.take j).all Dk.okByte = true) (hb : Dk.okByte (k.getD j 0) = true) : (k.take (j + 1)).all Dk.okByte = true := by
  rw [List.take_succ_eq_append_getElem hj, List.all_append, h]
  simpa [List.getD, hj] using hb
theorem not_all (k : Dk.Nm) (j : Nat) (hj : j < k.length) (hb : Dk.okByte (k.getD j 0) ≠ true) : Dk.valid k = false := by
  have : k.all Dk.okByte = false := by
    rw [List.all_eq_false]
    exact ⟨k[j], List.getElem_mem _, by simpa [List.getD, hj] using hb⟩
  simp [Dk.valid, this]

end Go.Proofs.YtegaahcelogmlaaGreatDoor

namespace Go.Proofs.YtegaahcelogmlaaGreatDoor
open Go.RowKit Go.Maps

theorem neq_nilD (a : Addr) (w : World) : (binOp .neq 30 (errV a) .nilIface).run Tryz.prog w = .ok (.bool true) w := by
  obtain ⟨ms, i, j, h1, h2, h3, h4, h5⟩ := es_facts
  have h : ∀ d : Nat, (Op.equalIn (d + 1) 30 (errV a) .nilIface).run Tryz.prog w = .ok false w := fun d => by simp [Op.equalIn, run_underlying h1, errV]
  simp only [binOp]
  simp [Op.equal, Op.maxDepth, h 9999]

end Go.Proofs.YtegaahcelogmlaaGreatDoor

namespace Go.Proofs.YtegaahcelogmlaaGreatDoor
open Go.RowKit Go.Maps

theorem Own.take {w : World} {base n len cap : Nat} {A : Option Addr} {l : List UInt8} (h : Own w base (.slice A len cap) l) (hn : n ≤ l.length) : Own w base (.slice A n cap) (l.take n) := by
  obtain ⟨_, h2⟩ := h
  have hlen : (l.take n).length = n := by simp; omega
  refine ⟨by simp [cells_len], ?_⟩
  rcases h2 with ⟨e, h0⟩ | ⟨g, cp, cur, e, hb, hh, hc, hm, hs, ht⟩
  · injection e with e1 e2 e3
    subst e1 e2 e3
    obtain rfl : n = 0 := by omega
    exact .inl ⟨rfl, by simp⟩
  · injection e with e1 e2 e3
    subst e1 e3
    refine .inr ⟨g, cap, cur, by rw [hlen], hb, hh, by omega, hm, hs, ?_⟩
    have h3 : cells (l.take n) = (cells l).take n := by simp [cells, List.map_take]
    rw [h3, ← ht, hlen, List.take_take]
    congr 1
    omega
theorem ownBlock_lt {w : World} {v : Value} {l : List UInt8} (h : Own w 0 v l) {g : Nat} (hg : v.ownBlock = some g) : ∃ cur, w.heap[g]? = some (.cells cur 5 (0, 0)) := by
  rcases h.2 with ⟨e, _⟩ | ⟨g', cap, cur, e, _, hh, _⟩
  · rw [e] at hg; cases hg
  · rw [e] at hg; injection hg with hg; subst hg; exact ⟨cur, hh⟩
theorem rowBlock_at {w : World} {e : TypeId} {n sz : Nat} {v : Value} {xs : List Value} (h : w.ownsRow 0 e sz v n xs) {g : Nat} (hg : v.ownBlock = some g) : ∃ cur, w.heap[g]? = some (.cells cur e (0, 0)) := by
  rcases h.2 with ⟨e, _⟩ | ⟨g', cap, cur, e, _, hh, _⟩
  · rw [e] at hg; cases hg
  · rw [e] at hg; injection hg with hg; subst hg; exact ⟨cur, hh⟩
theorem types_ne {w : World} {i j : Nat} {c c' : Array Value} {t t' : TypeId} (h : w.heap[i]? = some (.cells c t (0, 0))) (h' : w.heap[j]? = some (.cells c' t' (0, 0))) (ht : t ≠ t') : i ≠ j := by
  intro e
  subst e
  rw [h] at h'
  injection h' with h'
  injection h' with _ h' _
  exact ht h'
theorem map_ne {w : World} {i b n : Nat} {c : Array Value} {t : TypeId} {f : Dk.Dir} (h : NamesAt w b n f) (h' : w.heap[i]? = some (.cells c t (0, 0))) : b ≠ i := by
  obtain ⟨D, ⟨es, clock, h1, _⟩, _⟩ := h.ex
  intro e
  subst e
  rw [h1] at h'
  cases h'

theorem up_same {S : Nat → Prop} {w w' : World} (h : w'.heap.size = w.heap.size) : ∀ k, Up S w w' k → S k := fun k hk => by
  rcases hk with hk | hk
  · exact hk
  · omega

end Go.Proofs.YtegaahcelogmlaaGreatDoor

namespace Go.Proofs.YtegaahcelogmlaaGreatDoor
open Go.RowKit Go.Maps

/-- None of S's blocks is an error's. -/
structure Safe (S : Nat → Prop) (p : Nat → Addr) : Prop where
  g : ∀ j, 4 ≤ j → j ≤ 9 → ¬ S (gs.getD j 0)
  b : ∀ j, 4 ≤ j → j ≤ 9 → ¬ S (p j).block
theorem SentsOn.chg {S : Nat → Prop} {w w' : World} {p : Nat → Addr} (h : SentsD w p) (hS : Safe S p) (hc : Chg S w w') : SentsD w' p :=
  ⟨fun j hj => hc.cell (h.cell j hj) (hS.g j hj.1 hj.2), fun j hj => by
    obtain ⟨h1, c, t, h2⟩ := h.blk j hj
    exact ⟨Nat.lt_of_lt_of_le h1 hc.size, c, t, (hc.block _ h1 (hS.b j hj.1 hj.2)).trans h2⟩, h.ne⟩
/-- Numbers that stay within 64 bits. -/
structure Dk.Fit (s : Dk.St) : Prop where
  armed : -9223372036854775808 ≤ s.armed ∧ s.armed ≤ 9223372036854775807
  calls : 0 ≤ s.calls ∧ s.calls ≤ 1099511627776
  used : -1125899906842624 ≤ s.used ∧ s.used ≤ 1125899906842624
  room : 0 ≤ s.room ∧ s.room ≤ 1125899906842624
  file : ∀ i, (s.files i).bytes.length ≤ 1000000000
theorem Dk.Fit.begin {s : Dk.St} (h : Dk.Fit s) : Dk.Fit s.begin := by
  unfold Dk.St.begin
  split
  · exact ⟨by have := h.armed; show _ ≤ s.armed - 1 ∧ s.armed - 1 ≤ _; omega, h.calls, h.used, h.room, h.file⟩
  · exact h
theorem find_cases (t : Dk.St) (k : Dk.Nm) : (∃ j, t.find k = (some j, none)) ∨ ∃ i, t.find k = (none, some i) ∧ t.names k = some i := by
  unfold Dk.St.find
  split
  · exact .inl ⟨9, rfl⟩
  · cases h : t.names k with
    | none => exact .inl ⟨6, rfl⟩
    | some i => exact .inr ⟨i, rfl, rfl⟩

def LenIs (b : List UInt8) (n : Nat) : Prop := b.length = n
theorem LenIs.out {b : List UInt8} {n : Nat} (h : LenIs b n) : b.length = n := h
theorem Arg.chg {S : Nat → Prop} {w w' : World} {A : Option Addr} {c : Nat} {l : List UInt8} (h : Arg w A c l) (hc : Chg S w w') (hA : ∀ b o, A = some ⟨b, o, none⟩ → l ≠ [] → ¬ S b) : Arg w' A c l := by
  refine ⟨h.le, h.max, h.nil, ?_⟩
  rcases h.reads with e | ⟨b, off, e, hb, hr⟩
  · exact .inl e
  · by_cases hl : l = []
    · exact .inl hl
    · exact .inr ⟨b, off, e, Nat.lt_of_lt_of_le hb hc.size, fun k hk => hc.cell (hr k hk) (hA b off e hl)⟩

end Go.Proofs.YtegaahcelogmlaaGreatDoor

namespace Go.Proofs.YtegaahcelogmlaaGreatDoor
open Go.RowKit Go.Maps

/-- What of a call's own is told when its end is reached. -/
theorem Took.ahead {sb ob ub : Nat} {ov : St.Nm → Option Value} {pb : Int → Nat} {pv : Int → Int → Option Value} {s : St.S} {m : Nat} {S D : Nat → Prop} {w W w1 : World} (h : Took sb ob ub ov pb pv s m S D W w1) (hb : Below w.heap.size w W) : Took sb ob ub ov pb pv s m S D w w1 :=
  ⟨h.st, (Chg.of_below hb).then h.chg⟩

set_option maxRecDepth 100000 in
set_option maxHeartbeats 1000000 in
theorem stAnsB_any {w : World} {sb ob ub : Nat} {sv : Value} {ov : St.Nm → Option Value} {pb : Int → Nat} {pv : Int → Int → Option Value} {s : St.S} {m : Nat} {S D : Nat → Prop} (h : StoreL w sb ob ub sv ov pb pv s m S D) (hc : 0 ≤ s.calls ∧ s.calls ≤ 1000000000) (hf : 0 ≤ s.failed ∧ s.failed ≤ 1000000000)
    (p : Nat → Addr) (hs : w.cell? ⟨6, 0, none⟩ = some (errV (p 10))) (hg : 6 ≠ sb) (F : Nat) (caps : Array Value) (hE : Enters Tryz.prog F) (R : Value → Option Nat → World → Prop) (hR : ∀ v r W W', R v r W → Below W.heap.size W W' → R v r W')
    (h1 : s.out = 1 → ∀ w1, Took sb ob ub ov pb pv s m S D w w1 → R (.slice none 0 0) (some 10) w1)
    (h2 : s.out ≠ 1 → ∀ w1, Took sb ob ub ov pb pv s m S D w w1 → Calls Tryz.prog F caps w1 fun e w2 => ∃ A n c r, e = .returned (.tuple #[.slice A n c, errR p r]) ∧ w2.cell? ⟨6, 0, none⟩ = some (errV (p 10)) ∧ (s.out = 2 → R (.slice none 0 0) (some 10) w2) ∧ (s.out ≠ 2 → R (.slice A n c) r w2)) :
    Calls Tryz.prog 84 #[.pointer (some ⟨sb, 0, none⟩), .func (.func F) #[] caps] w fun e w' => ∃ A n c r, e = .returned (.tuple #[.slice A n c, errR p r]) ∧ R (.slice A n c) r w' := by
  have HT := hide (fun W (hW : Below w.heap.size w W) => stTake_any (h.kept hW.size fun k _ hl => hW.block k hl) hc hf)
  have hgl := World.block_lt_of_cell? _ _ hs
  have HC : Hid (∀ w1, Took sb ob ub ov pb pv s m S D w w1 → w1.cell? ⟨6, 0, none⟩ = some (errV (p 10))) := hide (fun w1 ht => ht.chg.cell hs hg)
  have HR := hide hR
  unfold Enters at hE
  clear h hc hf hs hg hR hgl
  generalize ho : s.out = o at *
  clear ho
  unfold errV at *
  by_cases e1 : o = 1
  · have H1 := hide (h1 e1)
    clear h1 h2
    subst e1
    go_enter Tryz.func84, Tryz.ntmps84
    go_wp2_with (first
      | (go_at_call 81; refine (HT.out _ (Below.refl _ _)).mono ?_; rintro e w1 ⟨rfl, ht⟩; have HTA := ht.ahead (Below.refl _ _); have H := hide (H1.out w1 HTA); have hcell := HC.out w1 HTA; clear ht HTA)
      | fail)
    go_quiet (fail)
    go_wp2_with fail
    go_returns
    exact ⟨_, _, _, some 10, rfl, HR.out _ _ _ _ H.out (below_drewN (Below.refl _ _) _)⟩
  · have H2 := hide (h2 e1)
    clear h1 h2
    have b1 : (o == 1) = false := by simpa using e1
    by_cases e2 : o = 2
    · subst e2
      go_enter Tryz.func84, Tryz.ntmps84
      go_wp2_with (first
        | (go_at_call 81; refine (HT.out _ (Below.refl _ _)).mono ?_; rintro e w1 ⟨rfl, ht⟩; have HTA := ht.ahead (Below.refl _ _); have H := hide (H2.out w1 HTA); clear ht HTA)
        | fail)
      refine H.out.mono ?_
      rintro e w2 ⟨A, n, c, r, rfl, hcell, hl, -⟩
      have HL := hide (hl (by trivial))
      clear hl
      go_wp2_with fail
      go_quiet (fail)
      go_wp2_with fail
      go_returns
      exact ⟨_, _, _, some 10, rfl, HR.out _ _ _ _ HL.out (below_drewN (Below.refl _ _) _)⟩
    · have b2 : (o == 2) = false := by simpa using e2
      have HO2 := hide e2
      clear e1 e2
      go_enter Tryz.func84, Tryz.ntmps84
      go_wp2_with (first
        | (go_at_call 81; refine (HT.out _ (Below.refl _ _)).mono ?_; rintro e w1 ⟨rfl, ht⟩; have HTA := ht.ahead (Below.refl _ _); have H := hide (H2.out w1 HTA); clear ht HTA)
        | fail)
      refine H.out.mono ?_
      rintro e w2 ⟨A, n, c, r, rfl, hcell, -, hl⟩
      have HL := hide (hl HO2.out)
      clear hl
      go_wp2_with fail
      go_returns
      exact ⟨_, _, _, r, rfl, HL.out⟩
set_option maxRecDepth 100000 in
set_option maxHeartbeats 1000000 in
theorem stAnsI_any {w : World} {sb ob ub : Nat} {sv : Value} {ov : St.Nm → Option Value} {pb : Int → Nat} {pv : Int → Int → Option Value} {s : St.S} {m : Nat} {S D : Nat → Prop} (h : StoreL w sb ob ub sv ov pb pv s m S D) (hc : 0 ≤ s.calls ∧ s.calls ≤ 1000000000) (hf : 0 ≤ s.failed ∧ s.failed ≤ 1000000000)
    (p : Nat → Addr) (hs : w.cell? ⟨6, 0, none⟩ = some (errV (p 10))) (hg : 6 ≠ sb) (F : Nat) (caps : Array Value) (hE : Enters Tryz.prog F) (R : Value → Option Nat → World → Prop) (hR : ∀ v r W W', R v r W → Below W.heap.size W W' → R v r W')
    (h1 : s.out = 1 → ∀ w1, Took sb ob ub ov pb pv s m S D w w1 → R (.int .i64 0) (some 10) w1)
    (h2 : s.out ≠ 1 → ∀ w1, Took sb ob ub ov pb pv s m S D w w1 → Calls Tryz.prog F caps w1 fun e w2 => ∃ x r, e = .returned (.tuple #[.int .i64 x, errR p r]) ∧ w2.cell? ⟨6, 0, none⟩ = some (errV (p 10)) ∧ (s.out = 2 → R (.int .i64 0) (some 10) w2) ∧ (s.out ≠ 2 → R (.int .i64 x) r w2)) :
    Calls Tryz.prog 56 #[.pointer (some ⟨sb, 0, none⟩), .func (.func F) #[] caps] w fun e w' => ∃ x r, e = .returned (.tuple #[.int .i64 x, errR p r]) ∧ R (.int .i64 x) r w' := by
  have HT := hide (fun W (hW : Below w.heap.size w W) => stTake_any (h.kept hW.size fun k _ hl => hW.block k hl) hc hf)
  have hgl := World.block_lt_of_cell? _ _ hs
  have HC : Hid (∀ w1, Took sb ob ub ov pb pv s m S D w w1 → w1.cell? ⟨6, 0, none⟩ = some (errV (p 10))) := hide (fun w1 ht => ht.chg.cell hs hg)
  have HR := hide hR
  unfold Enters at hE
  clear h hc hf hs hg hR hgl
  generalize ho : s.out = o at *
  clear ho
  unfold errV at *
  by_cases e1 : o = 1
  · have H1 := hide (h1 e1)
    clear h1 h2
    subst e1
    go_enter Tryz.func56, Tryz.ntmps56
    go_wp2_with (first
      | (go_at_call 81; refine (HT.out _ (Below.refl _ _)).mono ?_; rintro e w1 ⟨rfl, ht⟩; have HTA := ht.ahead (Below.refl _ _); have H := hide (H1.out w1 HTA); have hcell := HC.out w1 HTA; clear ht HTA)
      | fail)
    go_quiet (fail)
    go_wp2_with fail
    go_returns
    exact ⟨_, some 10, rfl, HR.out _ _ _ _ H.out (below_drewN (Below.refl _ _) _)⟩
  · have H2 := hide (h2 e1)
    clear h1 h2
    have b1 : (o == 1) = false := by simpa using e1
    by_cases e2 : o = 2
    · subst e2
      go_enter Tryz.func56, Tryz.ntmps56
      go_wp2_with (first
        | (go_at_call 81; refine (HT.out _ (Below.refl _ _)).mono ?_; rintro e w1 ⟨rfl, ht⟩; have HTA := ht.ahead (Below.refl _ _); have H := hide (H2.out w1 HTA); clear ht HTA)
        | fail)
      refine H.out.mono ?_
      rintro e w2 ⟨x, r, rfl, hcell, hl, -⟩
      have HL := hide (hl (by trivial))
      clear hl
      go_wp2_with fail
      go_quiet (fail)
      go_wp2_with fail
      go_returns
      exact ⟨_, some 10, rfl, HR.out _ _ _ _ HL.out (below_drewN (Below.refl _ _) _)⟩
    · have b2 : (o == 2) = false := by simpa using e2
      have HO2 := hide e2
      clear e1 e2
      go_enter Tryz.func56, Tryz.ntmps56
      go_wp2_with (first
        | (go_at_call 81; refine (HT.out _ (Below.refl _ _)).mono ?_; rintro e w1 ⟨rfl, ht⟩; have HTA := ht.ahead (Below.refl _ _); have H := hide (H2.out w1 HTA); clear ht HTA)
        | fail)
      refine H.out.mono ?_
      rintro e w2 ⟨x, r, rfl, hcell, -, hl⟩
      have HL := hide (hl HO2.out)
      clear hl
      go_wp2_with fail
      go_returns
      exact ⟨_, r, rfl, HL.out⟩
set_option maxRecDepth 100000 in
set_option maxHeartbeats 1000000 in
theorem stAnsU_any {w : World} {sb ob ub : Nat} {sv : Value} {ov : St.Nm → Option Value} {pb : Int → Nat} {pv : Int → Int → Option Value} {s : St.S} {m : Nat} {S D : Nat → Prop} (h : StoreL w sb ob ub sv ov pb pv s m S D) (hc : 0 ≤ s.calls ∧ s.calls ≤ 1000000000) (hf : 0 ≤ s.failed ∧ s.failed ≤ 1000000000)
    (p : Nat → Addr) (hs : w.cell? ⟨6, 0, none⟩ = some (errV (p 10))) (hg : 6 ≠ sb) (F : Nat) (caps : Array Value) (hE : Enters Tryz.prog F) (R : Value → Option Nat → World → Prop) (hR : ∀ v r W W', R v r W → Below W.heap.size W W' → R v r W')
    (h1 : s.out = 1 → ∀ w1, Took sb ob ub ov pb pv s m S D w w1 → R (.agg #[]) (some 10) w1)
    (h2 : s.out ≠ 1 → ∀ w1, Took sb ob ub ov pb pv s m S D w w1 → Calls Tryz.prog F caps w1 fun e w2 => ∃ r, e = .returned (.tuple #[.agg #[], errR p r]) ∧ w2.cell? ⟨6, 0, none⟩ = some (errV (p 10)) ∧ (s.out = 2 → R (.agg #[]) (some 10) w2) ∧ (s.out ≠ 2 → R (.agg #[]) r w2)) :
    Calls Tryz.prog 82 #[.pointer (some ⟨sb, 0, none⟩), .func (.func F) #[] caps] w fun e w' => ∃ r, e = .returned (.tuple #[.agg #[], errR p r]) ∧ R (.agg #[]) r w' := by
  have HT := hide (fun W (hW : Below w.heap.size w W) => stTake_any (h.kept hW.size fun k _ hl => hW.block k hl) hc hf)
  have hgl := World.block_lt_of_cell? _ _ hs
  have HC : Hid (∀ w1, Took sb ob ub ov pb pv s m S D w w1 → w1.cell? ⟨6, 0, none⟩ = some (errV (p 10))) := hide (fun w1 ht => ht.chg.cell hs hg)
  have HR := hide hR
  unfold Enters at hE
  clear h hc hf hs hg hR hgl
  generalize ho : s.out = o at *
  clear ho
  unfold errV at *
  by_cases e1 : o = 1
  · have H1 := hide (h1 e1)
    clear h1 h2
    subst e1
    go_enter Tryz.func82, Tryz.ntmps82
    go_wp2_with (first
      | (go_at_call 81; refine (HT.out _ (balloc (balloc (Below.refl _ _) _) _)).mono ?_; rintro e w1 ⟨rfl, ht⟩; have HTA := ht.ahead (balloc (balloc (Below.refl _ _) _) _); have H := hide (H1.out w1 HTA); have hcell := HC.out w1 HTA; clear ht HTA)
      | fail)
    go_region
    go_wp2_with fail
    refine bodyPost_ret (by simp [results, Tryz.results82, go_sem]; try rfl) rfl ?_
    exact ⟨some 10, rfl, HR.out _ _ _ _ H.out (below_drewN (Below.refl _ _) _)⟩
  · have H2 := hide (h2 e1)
    clear h1 h2
    have b1 : (o == 1) = false := by simpa using e1
    by_cases e2 : o = 2
    · subst e2
      go_enter Tryz.func82, Tryz.ntmps82
      go_wp2_with (first
        | (go_at_call 81; refine (HT.out _ (balloc (balloc (Below.refl _ _) _) _)).mono ?_; rintro e w1 ⟨rfl, ht⟩; have HTA := ht.ahead (balloc (balloc (Below.refl _ _) _) _); have H := hide (H2.out w1 HTA); clear ht HTA)
        | fail)
      refine H.out.mono ?_
      rintro e w2 ⟨r, rfl, hcell, hl, -⟩
      have hcell2 : ∀ o, (w2.alloc o).cell? ⟨6, 0, none⟩ = w2.cell? ⟨6, 0, none⟩ := fun o => World.cell?_alloc_lt w2 o _ (World.block_lt_of_cell? _ _ hcell)
      rw [hcell] at hcell2
      have HL := hide (hl (by trivial))
      clear hl
      go_wp2_with fail
      go_region
      go_wp2_with fail
      refine bodyPost_ret (by simp [results, Tryz.results82, go_sem]; try rfl) rfl ?_
      exact ⟨some 10, rfl, HR.out _ _ _ _ HL.out (below_drewN (balloc (Below.refl _ _) _) 1)⟩
    · have b2 : (o == 2) = false := by simpa using e2
      have HO2 := hide e2
      clear e1 e2
      go_enter Tryz.func82, Tryz.ntmps82
      go_wp2_with (first
        | (go_at_call 81; refine (HT.out _ (balloc (balloc (Below.refl _ _) _) _)).mono ?_; rintro e w1 ⟨rfl, ht⟩; have HTA := ht.ahead (balloc (balloc (Below.refl _ _) _) _); have H := hide (H2.out w1 HTA); clear ht HTA)
        | fail)
      refine H.out.mono ?_
      rintro e w2 ⟨r, rfl, hcell, -, hl⟩
      have HL := hide (hl HO2.out)
      clear hl
      go_wp2_with fail
      refine bodyPost_ret (by simp [results, Tryz.results82, go_sem]; try rfl) rfl ?_
      exact ⟨r, rfl, HR.out _ _ _ _ HL.out (balloc (Below.refl _ _) _)⟩

set_option maxRecDepth 100000 in
set_option maxHeartbeats 1000000 in
theorem stBare1_any {w : World} {b F : Nat} {caps : Array Value} (p : Nat → Addr) (hb : w.cell? ⟨b, 0, none⟩ = some (.func (.func F) #[] caps)) (hE : Enters Tryz.prog F) (Q : Option Nat → World → Prop)
    (h : ∀ W, Below w.heap.size w W → Calls Tryz.prog F caps W fun e w2 => ∃ r, e = .returned (errR p r) ∧ Q r w2) :
    Calls Tryz.prog 83 #[.pointer (some ⟨b, 0, none⟩)] w fun e w' => ∃ r, e = .returned (.tuple #[.agg #[], errR p r]) ∧ Q r w' := by
  have hb2 : ∀ o, (w.alloc o).cell? ⟨b, 0, none⟩ = w.cell? ⟨b, 0, none⟩ := fun o => World.cell?_alloc_lt w o _ (World.block_lt_of_cell? _ _ hb)
  rw [hb] at hb2
  have H := hide (fun o => h (w.alloc o) (balloc (Below.refl _ _) _))
  unfold Enters at hE
  clear h
  go_enter Tryz.func83, Tryz.ntmps83
  go_wp2_with fail
  refine (H.out _).mono ?_
  rintro e w2 ⟨r, rfl, hq⟩
  have HQ := hide hq
  clear hq
  go_wp2_with fail
  refine bodyPost_ret (by simp [results, Tryz.results83, go_sem]; try rfl) rfl ?_
  exact ⟨r, rfl, HQ.out⟩

set_option maxRecDepth 100000 in
set_option maxHeartbeats 1000000 in
theorem stBare_any {w : World} {sb ob ub : Nat} {sv : Value} {ov : St.Nm → Option Value} {pb : Int → Nat} {pv : Int → Int → Option Value} {s : St.S} {m : Nat} {S D : Nat → Prop} (h : StoreL w sb ob ub sv ov pb pv s m S D) (hc : 0 ≤ s.calls ∧ s.calls ≤ 1000000000) (hf : 0 ≤ s.failed ∧ s.failed ≤ 1000000000)
    (p : Nat → Addr) (hs : w.cell? ⟨6, 0, none⟩ = some (errV (p 10))) (hg : 6 ≠ sb) (F : Nat) (caps : Array Value) (hE : Enters Tryz.prog F) (R : Option Nat → World → Prop) (hR : ∀ r W W', R r W → Below W.heap.size W W' → R r W')
    (h1 : s.out = 1 → ∀ w1, Took sb ob ub ov pb pv s m S D w w1 → R (some 10) w1)
    (h2 : s.out ≠ 1 → ∀ w1, Took sb ob ub ov pb pv s m S D w w1 → Calls Tryz.prog F caps w1 fun e w2 => ∃ r, e = .returned (errR p r) ∧ w2.cell? ⟨6, 0, none⟩ = some (errV (p 10)) ∧ (s.out = 2 → R (some 10) w2) ∧ (s.out ≠ 2 → R r w2)) :
    Calls Tryz.prog 59 #[.pointer (some ⟨sb, 0, none⟩), .func (.func F) #[] caps] w fun e w' => ∃ r, e = .returned (errR p r) ∧ R r w' := by
  obtain ⟨W, hW⟩ : ∃ W, W = w.alloc (.cells #[.func (.func F) #[] caps] 87) := ⟨_, rfl⟩
  have hb : Below w.heap.size w W := hW ▸ balloc (Below.refl _ _) _
  have hbx : W.cell? ⟨w.heap.size, 0, none⟩ = some (.func (.func F) #[] caps) := by rw [hW, World.cell?_alloc_mark]; rfl
  have hsb : sb < w.heap.size := (Array.getElem?_eq_some_iff.1 h.box).1
  have HA := hide (stAnsU_any (h.kept (w' := W) hb.size fun k _ hl => hb.block k hl) hc hf p ((hb.cell (p := ⟨6, 0, none⟩) (World.block_lt_of_cell? _ _ hs)).trans hs) hg 83 #[.pointer (some ⟨w.heap.size, 0, none⟩)] (enters_of Tryz.func83 (by kernel_rfl) rfl) (fun _ r W => R r W) (fun _ => hR)
    (fun ho w1 ht => h1 ho w1 (ht.ahead hb))
    (fun ho w1 ht => by
      have hbx1 := ht.chg.cell hbx (by show ¬ (w.heap.size = sb); omega)
      refine (stBare1_any p hbx1 hE (fun r w2 => w2.cell? ⟨6, 0, none⟩ = some (errV (p 10)) ∧ (s.out = 2 → R (some 10) w2) ∧ (s.out ≠ 2 → R r w2)) fun W1 hW1 => ?_).mono fun e w2 ⟨r, he, h3, h4, h5⟩ => ⟨r, he, h3, h4, h5⟩
      exact h2 ho W1 ⟨by obtain ⟨sv, hl⟩ := ht.st; exact ⟨sv, hl.kept hW1.size fun k _ hl => hW1.block k hl⟩, ((Chg.of_below hb).then ht.chg).then (Chg.of_below hW1)⟩))
  have HW := hide hW
  have HR := hide hR
  clear h hc hf hs hg hE hR h1 h2 hW hb hbx hsb
  go_enter Tryz.func59, Tryz.ntmps59
  go_wp2_with (first
    | (go_at_call 82; rw [← HW.out]; refine HA.out.mono ?_; rintro e w1 ⟨r, rfl, hr⟩; have H := hide hr; clear hr)
    | fail)
  go_ret
  exact ⟨r, rfl, HR.out _ _ _ H.out (balloc (Below.refl _ _) _)⟩
end Go.Proofs.YtegaahcelogmlaaGreatDoor

namespace Go.Proofs.YtegaahcelogmlaaGreatDoor
open Go.RowKit

theorem stValid_len {k : Dk.Nm} (h : Dk.valid k = true) : k.length ≤ 64 := by
  unfold Dk.valid at h
  simp at h
  exact h.1.2
set_option maxRecDepth 100000 in
set_option maxHeartbeats 1000000 in
theorem stValid_any (k : Dk.Nm) (hk : k.length ≤ 9223372036854775807) (w : World) :
    Calls Tryz.prog 58 #[encStr k] w fun e w' => e = .returned (.bool (Dk.valid k)) ∧ w' = w := by
  obtain ⟨r, hr⟩ : ∃ r, r = Dk.valid k := ⟨_, rfl⟩
  rw [← hr]
  have HR := hide hr
  clear hr
  have hsz : (⟨k.toArray⟩ : ByteArray).size = k.length := by simp [ByteArray.size]
  by_cases h1 : 1 ≤ k.length
  · by_cases h2 : k.length ≤ 64
    · have d1 : decide ((k.length : Int) < 1) = false := by simp; omega
      have d2 : decide ((64 : Int) < (k.length : Int)) = false := by simp; omega
      have HV : Hid (k.all Dk.okByte = true → r = true) := hide (fun h => by rw [HR.out]; simp [Dk.valid, h, h1, h2])
      have HN : Hid (∀ j, j < k.length → Dk.okByte (k.getD j 0) ≠ true → r = false) := hide (fun j hj hb => by rw [HR.out]; exact not_all k j hj hb)
      clear HR
      go_enter Tryz.func58, Tryz.ntmps58
      go_wp2_with fail
      go_loopw [15] (fun i wr => ∃ j : Nat, j ≤ k.length ∧ i = .int .i64 j ∧ wr = w ∧ (k.take j).all Dk.okByte = true) (fun i _ => k.length - (intOf i).toNat)
      case atStart => exact ⟨0, Nat.zero_le _, rfl, rfl, by simp⟩
      case round =>
        obtain ⟨j, hj, rfl, rfl, hall⟩ := hrel
        have HALL := hide hall
        clear hall
        by_cases hlt : j < k.length
        · have hat := str_at k j hlt wr
          have HT := hide (all_take k j hlt HALL.out)
          have HN2 := hide (HN.out j hlt)
          have hi := okByte_iff (k.getD j 0)
          have hx0 : 0 ≤ B (k.getD j 0) := by unfold B; omega
          generalize k.getD j 0 = c at *
          have HI := hide hi
          clear hi
          generalize hx : B c = x at *
          clear hx HN HALL
          have HY : Hid ((97 ≤ x ∧ x ≤ 122) ∨ (48 ≤ x ∧ x ≤ 57) ∨ x = 46 ∨ x = 45 ∨ x = 95 → ∃ j' : Nat, j' ≤ k.length ∧ ((j' : Int) = (j : Int) + 1) ∧ (k.take j').all Dk.okByte = true) := hide (fun h => ⟨j + 1, by omega, by omega, HT.out (HI.out.2 h)⟩)
          have HZ : Hid (¬ ((97 ≤ x ∧ x ≤ 122) ∨ (48 ≤ x ∧ x ≤ 57) ∨ x = 46 ∨ x = 45 ∨ x = 95) → r = false) := hide (fun h => HN2.out (fun e => h (HI.out.1 e)))
          clear HT HN2 HI
          by_cases a1 : 97 ≤ x
          · by_cases a2 : x ≤ 122
            · go_wp2_with fail
              obtain ⟨j', e1, e2, e3⟩ := HY.out (by omega)
              exact ⟨⟨j', e1, by rw [e2], trivial, e3⟩, by simp [intOf]; omega⟩
            · have a3 : 48 ≤ x := by omega
              have a4 : ¬ x ≤ 57 := by omega
              have a5 : (x == 46) = false := by simp; omega
              have a6 : (x == 45) = false := by simp; omega
              have a7 : (x == 95) = false := by simp; omega
              go_wp2_with fail
              go_ret
              exact ⟨by rw [HZ.out (by omega)]; rfl, rfl⟩
          · by_cases a3 : 48 ≤ x
            · by_cases a4 : x ≤ 57
              · go_wp2_with fail
                obtain ⟨j', e1, e2, e3⟩ := HY.out (by omega)
                exact ⟨⟨j', e1, by rw [e2], trivial, e3⟩, by simp [intOf]; omega⟩
              · have a5 : (x == 46) = false := by simp; omega
                have a6 : (x == 45) = false := by simp; omega
                by_cases a7 : x = 95
                · subst a7
                  go_wp2_with fail
                  obtain ⟨j', e1, e2, e3⟩ := HY.out (by omega)
                  exact ⟨⟨j', e1, by rw [e2], trivial, e3⟩, by simp [intOf]; omega⟩
                · have a8 : (x == 95) = false := by simp; omega
                  go_wp2_with fail
                  go_ret
                  exact ⟨by rw [HZ.out (by omega)]; rfl, rfl⟩
            · have a7 : (x == 95) = false := by simp; omega
              by_cases a5 : x = 46
              · subst a5
                go_wp2_with fail
                obtain ⟨j', e1, e2, e3⟩ := HY.out (by omega)
                exact ⟨⟨j', e1, by rw [e2], trivial, e3⟩, by simp [intOf]; omega⟩
              · have a8 : (x == 46) = false := by simp; omega
                by_cases a6 : x = 45
                · subst a6
                  go_wp2_with fail
                  obtain ⟨j', e1, e2, e3⟩ := HY.out (by omega)
                  exact ⟨⟨j', e1, by rw [e2], trivial, e3⟩, by simp [intOf]; omega⟩
                · have a9 : (x == 45) = false := by simp; omega
                  go_wp2_with fail
                  go_ret
                  exact ⟨by rw [HZ.out (by omega)]; rfl, rfl⟩
        · obtain rfl : j = k.length := by omega
          go_wp2_with fail
          go_ret
          exact ⟨by rw [HV.out (by have := HALL.out; rwa [List.take_length] at this)]; rfl, rfl⟩
    · have e : r = false := by rw [HR.out]; simp [Dk.valid, h2]
      subst e
      have d1 : decide ((k.length : Int) < 1) = false := by simp; omega
      have d2 : decide ((64 : Int) < (k.length : Int)) = true := by simp; omega
      go_enter Tryz.func58, Tryz.ntmps58
      go_wp2_with fail
      go_ret
      exact ⟨rfl, rfl⟩
  · have e : r = false := by rw [HR.out]; simp [Dk.valid, h1]
    subst e
    have d1 : decide ((k.length : Int) < 1) = true := by simp; omega
    go_enter Tryz.func58, Tryz.ntmps58
    go_wp2_with fail
    go_ret
    exact ⟨rfl, rfl⟩
end Go.Proofs.YtegaahcelogmlaaGreatDoor
