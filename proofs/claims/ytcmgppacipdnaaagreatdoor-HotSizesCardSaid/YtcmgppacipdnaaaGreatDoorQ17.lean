/-
  A disk in memory: what lies where; what a call leaves of all else.
  The statements' own helper 'Is': nil is Fine's number alone, an error of the package its own number alone.
  What stands ahead of a disk's calls: the power, the file of a name, whether a name may be.
-/
import Derived.Test.YtcmgppacipdnaaaGreatDoorQ16
import Derived.Test.YtcmgppacipdnaaaGreatDoorQ6
import Derived.Maps.OwnSet
import Derived.Maps.RangeWalk
import Derived.Sort.KeysCollected
import Derived.Test.YtcmgppacipdnaaaGreatDoorQ4
import Derived.Handy
import Derived.Deep.QuietTactic
import Derived.BigQuiet
namespace Go.Proofs.YtcmgppacipdnaaaGreatDoor
open Go.RowKit Go.Maps

/-- Blocks of which S does not hold lie as they lay. -/
structure Chg (S : Nat → Prop) (w w' : World) : Prop where
  os : w'.os = w.os
  tape : w'.tape = w.tape
  output : w'.output = w.output
  size : w.heap.size ≤ w'.heap.size
  block : ∀ k, k < w.heap.size → ¬ S k → w'.heap[k]? = w.heap[k]?
/-- S, and what is new since. -/
def Up (S : Nat → Prop) (w w' : World) : Nat → Prop := fun k => S k ∨ (w.heap.size ≤ k ∧ k < w'.heap.size)
theorem Chg.refl (S : Nat → Prop) (w : World) : Chg S w w := ⟨rfl, rfl, rfl, Nat.le_refl _, fun _ _ _ => rfl⟩
theorem Chg.trans {S T : Nat → Prop} {a b c : World} (h : Chg S a b) (k : Chg T b c) (hT : ∀ i, i < a.heap.size → T i → S i) : Chg S a c :=
  ⟨k.os.trans h.os, k.tape.trans h.tape, k.output.trans h.output, Nat.le_trans h.size k.size, fun i hi hn => (k.block i (Nat.lt_of_lt_of_le hi h.size) (fun t => hn (hT i hi t))).trans (h.block i hi hn)⟩
theorem Chg.up {S : Nat → Prop} {a b c : World} (h : Chg S a b) (k : Chg (Up S a b) b c) : Chg S a c := h.trans k fun i hi t => by rcases t with t | t; exact t; omega
theorem Chg.then {S : Nat → Prop} {a b c : World} (h : Chg S a b) (k : Chg S b c) : Chg S a c := h.trans k fun _ _ t => t
theorem Chg.mono {S T : Nat → Prop} {a b : World} (h : Chg S a b) (hT : ∀ i, S i → T i) : Chg T a b := ⟨h.os, h.tape, h.output, h.size, fun k hk hn => h.block k hk fun s => hn (hT k s)⟩
theorem Chg.of_below {S : Nat → Prop} {w w' : World} (h : Below w.heap.size w w') : Chg S w w' := ⟨h.os, h.tape, h.output, h.size, fun k hk _ => h.block k hk⟩
theorem Chg.of_grown {S : Nat → Prop} {w w' : World} {row : Option Nat} (h : w.grownBy w' row) (hr : ∀ k, row = some k → S k) : Chg S w w' :=
  ⟨h.os, h.tape, h.output, h.size, fun k hk hn => h.block k hk fun e => hn (hr k e.symm)⟩
theorem Chg.setCell {S : Nat → Prop} (w : World) (g i : Nat) (v : Value) (hS : S g) : Chg S w (w.setCell ⟨g, i, none⟩ v) :=
  ⟨rfl, rfl, rfl, by simp, fun k _ hn => Below.heap_setCell _ _ _ _ (by intro e; subst e; exact hn hS)⟩
theorem Chg.below {S : Nat → Prop} {w w' : World} {C : Nat} (h : Chg S w w') (hC : C ≤ w.heap.size) (hS : ∀ k, S k → C ≤ k) : Below C w w' :=
  ⟨h.os, h.tape, h.output, h.size, fun k hk => h.block k (by omega) fun s => by have := hS k s; omega⟩
theorem Chg.cell {S : Nat → Prop} {w w' : World} (h : Chg S w w') {b o : Nat} {v : Value} (hc : w.cell? ⟨b, o, none⟩ = some v) (hn : ¬ S b) : w'.cell? ⟨b, o, none⟩ = some v := by
  have hb := h.block b (World.block_lt_of_cell? w _ hc) hn
  simpa [World.cell?, hb] using hc
theorem up_self {S : Nat → Prop} {a b : World} : ∀ k, S k → Up S a b k := fun _ h => .inl h
theorem up_up {S : Nat → Prop} {a b c : World} (h1 : a.heap.size ≤ b.heap.size) (h2 : b.heap.size ≤ c.heap.size) : ∀ k, Up (Up S a b) b c k → Up S a c k := by
  rintro k ((h | h) | h)
  · exact .inl h
  · exact .inr (by omega)
  · exact .inr (by omega)

/-- A pointer to a file, as a map's element. -/
def ptrE (v : Value) : Option (DataW Unit × List MemPlace) :=
  match v with
  | .pointer none => some (.lit (.int .i64 (-1)), [])
  | .pointer (some ⟨b, 0, none⟩) => some (.lit (.int .i64 b), [])
  | _ => none
def fileV : Option Nat → Value
  | none => .pointer none
  | some i => .pointer (some ⟨i, 0, none⟩)
def fileD : Option Nat → DataW Unit → DataW Unit
  | none, z => z
  | some i, _ => .lit (.int .i64 (i : Int))
theorem ptrE_file (i : Nat) : ptrE (fileV (some i)) = some (.lit (.int .i64 (i : Int)), []) := rfl
theorem ptrE_nil : ptrE (.pointer none) = some (.lit (.int .i64 (-1)), []) := rfl
/-- What reads so is that file's pointer. -/
theorem ptrE_inv {v : Value} {f : Option Nat} {ps : List MemPlace} (h : ptrE v = some (fileD f (.lit (.int .i64 (-1))), ps)) : v = fileV f := by
  unfold ptrE at h
  split at h
  · cases f with
    | none => rfl
    | some i => simp [fileD] at h <;> omega
  · rename_i b
    cases f with
    | none => simp [fileD] at h <;> omega
    | some i =>
      simp [fileD] at h
      obtain ⟨h, _⟩ := h
      have : b = i := by omega
      subst this
      rfl
  · cases h

/-- A map from names to files. -/
structure NamesAt (w : World) (b n : Nat) (f : Dk.Dir) : Prop where
  ex : ∃ D, w.ownsMap Tryz.prog 9 ptrE b n D ∧ ∀ k zd, D.atKey (.string k) zd = fileD (f k) zd
theorem str_law : Keyed Tryz.prog 9 := string_keyed Tryz.underlying9
theorem NamesAt.mono {w : World} {b n m : Nat} {f : Dk.Dir} (h : NamesAt w b n f) (hm : n ≤ m) : NamesAt w b m f := by
  obtain ⟨D, h1, h2⟩ := h.ex; exact ⟨D, h1.mono hm, h2⟩
theorem NamesAt.lt {w : World} {b n : Nat} {f : Dk.Dir} (h : NamesAt w b n f) : b < w.heap.size := by
  obtain ⟨D, h1, _⟩ := h.ex; exact h1.lt
theorem NamesAt.same {w w' : World} {b n : Nat} {f : Dk.Dir} (h : NamesAt w b n f) (hb : w'.heap[b]? = w.heap[b]?) : NamesAt w' b n f := by
  obtain ⟨D, ⟨es, clock, h1, h3⟩, h2⟩ := h.ex
  exact ⟨D, ⟨es, clock, hb.trans h1, h3⟩, h2⟩
theorem NamesAt.made (w : World) : NamesAt (w.alloc (.map #[] 0)) w.heap.size 0 (fun _ => none) :=
  ⟨.map [], World.ownsMap_made _ _ _ _, fun k zd => by simp [DataW.atKey, fileD]⟩
end Go.Proofs.YtcmgppacipdnaaaGreatDoor
namespace Go.Proofs.YtcmgppacipdnaaaGreatDoor
open Go.RowKit Go.Maps

def mvCells (m : Dk.Mv) : List Value := [encStr m.frm, encStr m.«to», fileV m.file]
def diskCells (s : Dk.St) (nb db : Nat) (sv : Value) : Array Value :=
  #[.int .i64 s.room, .map (some nb), .map (some db), sv, .int .i64 s.used, .int .i64 s.calls, .int .i64 s.armed, .bool s.down]

/-- A file at its block, its bytes in the row that v tells. -/
structure FileAt (w : World) (i : Nat) (v : Value) (f : Dk.File) : Prop where
  box : w.heap[i]? = some (.cells #[.int .i64 f.born, v, .int .i64 (f.synced : Int)] 110 (0, 0))
  row : Own w 0 v f.bytes
  sync : f.synced ≤ f.bytes.length

/-- A disk, with where each of its parts lies; S holds of all its blocks. -/
structure DiskL (w : World) (Bd nb db : Nat) (sv : Value) (ids : List Nat) (row : Nat → Value) (s : Dk.St) (S : Nat → Prop) : Prop where
  box : w.heap[Bd]? = some (.cells (diskCells s nb db sv) 100 (0, 0))
  names : NamesAt w nb s.calls.toNat s.names
  dur : ∃ m, NamesAt w db m s.dur ∧ m + s.since.length ≤ s.calls.toNat
  ne : nb ≠ db
  since : w.ownsRow 0 157 3 sv s.since.length (s.since.flatMap mvCells)
  nodup : ids.Nodup
  file : ∀ i ∈ ids, FileAt w i (row i) (s.files i)
  apart : ∀ i ∈ ids, ∀ j ∈ ids, i ≠ j → ∀ g, (row i).ownBlock = some g → (row j).ownBlock ≠ some g
  nref : ∀ k i, s.names k = some i → i ∈ ids ∧ k ≠ [] ∧ k.length ≤ 64
  dref : ∀ k i, s.dur k = some i → i ∈ ids ∧ k ≠ [] ∧ k.length ≤ 64
  sref : ∀ m ∈ s.since, (∀ i, m.file = some i → i ∈ ids) ∧ (m.«to» ≠ [] → m.file ≠ none) ∧ m.frm.length ≤ 64 ∧ m.«to».length ≤ 64
  calls : 0 ≤ s.calls
  mBd : S Bd
  mnb : S nb
  mdb : S db
  msv : ∀ g, sv.ownBlock = some g → S g
  mid : ∀ i ∈ ids, S i
  mrow : ∀ i ∈ ids, ∀ g, (row i).ownBlock = some g → S g
/-- A disk whose blocks are S's. -/
def IsDisk (w : World) (Bd : Nat) (s : Dk.St) (S : Nat → Prop) : Prop := ∃ nb db sv ids row, DiskL w Bd nb db sv ids row s S

theorem ownsRow_same {w w' : World} {base : Nat} {e : TypeId} {size : Nat} {v : Value} {n : Nat} {xs : List Value} (h : w.ownsRow base e size v n xs) (hb : ∀ g, v.ownBlock = some g → w'.heap[g]? = w.heap[g]?) : w'.ownsRow base e size v n xs := by
  refine ⟨h.1, ?_⟩
  rcases h.2 with h2 | ⟨g, cap, cur, rfl, hg, hh, r⟩
  · exact .inl h2
  · exact .inr ⟨g, cap, cur, rfl, hg, (hb g rfl).trans hh, r⟩
theorem FileAt.same {w w' : World} {i : Nat} {v : Value} {f : Dk.File} (h : FileAt w i v f) (hi : w'.heap[i]? = w.heap[i]?) (hb : ∀ g, v.ownBlock = some g → w'.heap[g]? = w.heap[g]?) : FileAt w' i v f :=
  ⟨hi.trans h.box, ownsRow_same h.row hb, h.sync⟩
theorem DiskL.kept {w w' : World} {Bd nb db : Nat} {sv : Value} {ids : List Nat} {row : Nat → Value} {s : Dk.St} {S : Nat → Prop} (h : DiskL w Bd nb db sv ids row s S) (hk : ∀ k, S k → k < w.heap.size → w'.heap[k]? = w.heap[k]?) : DiskL w' Bd nb db sv ids row s S := by
  have lt : ∀ {k : Nat} {o : Obj}, w.heap[k]? = some o → k < w.heap.size := fun h => (Array.getElem?_eq_some_iff.1 h).1
  obtain ⟨m, hd, hm⟩ := h.dur
  refine { h with box := (hk _ h.mBd (lt h.box)).trans h.box, names := h.names.same (hk _ h.mnb h.names.lt), dur := ⟨m, hd.same (hk _ h.mdb hd.lt), hm⟩, since := ownsRow_same h.since fun g hg => hk _ (h.msv g hg) (h.since.lt g hg).2, file := fun i hi => ?_ }
  exact (h.file i hi).same (hk _ (h.mid i hi) (lt (h.file i hi).box)) fun g hg => hk _ (h.mrow i hi g hg) ((h.file i hi).row.lt g hg).2
theorem DiskL.mono {w : World} {Bd nb db : Nat} {sv : Value} {ids : List Nat} {row : Nat → Value} {s : Dk.St} {S T : Nat → Prop} (h : DiskL w Bd nb db sv ids row s S) (hT : ∀ k, S k → T k) : DiskL w Bd nb db sv ids row s T :=
  { h with mBd := hT _ h.mBd, mnb := hT _ h.mnb, mdb := hT _ h.mdb, msv := fun g hg => hT _ (h.msv g hg), mid := fun i hi => hT _ (h.mid i hi), mrow := fun i hi g hg => hT _ (h.mrow i hi g hg) }
theorem IsDisk.kept {w w' : World} {Bd : Nat} {s : Dk.St} {S : Nat → Prop} (h : IsDisk w Bd s S) (hk : ∀ k, S k → k < w.heap.size → w'.heap[k]? = w.heap[k]?) : IsDisk w' Bd s S := by
  obtain ⟨nb, db, sv, ids, row, h⟩ := h; exact ⟨nb, db, sv, ids, row, h.kept hk⟩
theorem IsDisk.below {w w' : World} {Bd : Nat} {s : Dk.St} {S : Nat → Prop} (h : IsDisk w Bd s S) (hb : Below w.heap.size w w') : IsDisk w' Bd s S := h.kept fun k _ hk => hb.block k hk
theorem IsDisk.mono {w : World} {Bd : Nat} {s : Dk.St} {S T : Nat → Prop} (h : IsDisk w Bd s S) (hT : ∀ k, S k → T k) : IsDisk w Bd s T := by
  obtain ⟨nb, db, sv, ids, row, h⟩ := h; exact ⟨nb, db, sv, ids, row, h.mono hT⟩

/-- The disk's own box is written. -/
theorem DiskL.set {w : World} {Bd nb db : Nat} {sv : Value} {ids : List Nat} {row : Nat → Value} {s : Dk.St} {S : Nat → Prop} (h : DiskL w Bd nb db sv ids row s S) (i : Nat) (v : Value) (s' : Dk.St) (hc : (diskCells s nb db sv).setIfInBounds i v = diskCells s' nb db sv)
    (hn : s'.names = s.names) (hd : s'.dur = s.dur) (hs : s'.since = s.since) (hf : s'.files = s.files) (hl : s.calls ≤ s'.calls) : DiskL (w.setCell ⟨Bd, i, none⟩ v) Bd nb db sv ids row s' S := by
  have hoth : ∀ k, k ≠ Bd → (w.setCell ⟨Bd, i, none⟩ v).heap[k]? = w.heap[k]? := fun k hk => Below.heap_setCell _ _ _ _ hk
  have hcl := h.calls
  obtain ⟨m, hdn, hm⟩ := h.dur
  have n1 : nb ≠ Bd := by
    obtain ⟨D, ⟨es, clock, h1, _⟩, _⟩ := h.names.ex
    intro e; subst e; rw [h.box] at h1; cases h1
  have n2 : db ≠ Bd := by
    obtain ⟨D, ⟨es, clock, h1, _⟩, _⟩ := hdn.ex
    intro e; subst e; rw [h.box] at h1; cases h1
  have tne1 : 157 ≠ 100 := by decide
  have tne2 : 110 ≠ 100 := by decide
  have tne3 : 5 ≠ 100 := by decide
  have n3 : ∀ g, sv.ownBlock = some g → g ≠ Bd := by
    intro g hg e
    subst e
    rcases h.since.2 with ⟨e, _⟩ | ⟨g', cap, cur, e, _, hh, _⟩
    · rw [e] at hg; cases hg
    · rw [e] at hg; injection hg with hg; subst hg
      have := h.box.symm.trans hh
      injection this with this; injection this with _ this _; exact tne1 this.symm
  have n4 : ∀ j ∈ ids, j ≠ Bd := by
    intro j hj e
    subst e
    have := h.box.symm.trans (h.file j hj).box
    injection this with this; injection this with _ this _; exact tne2 this.symm
  have n5 : ∀ j ∈ ids, ∀ g, (row j).ownBlock = some g → g ≠ Bd := by
    intro j hj g hg e
    subst e
    rcases (h.file j hj).row.2 with ⟨e, _⟩ | ⟨g', cap, cur, e, _, hh, _⟩
    · rw [e] at hg; cases hg
    · rw [e] at hg; injection hg with hg; subst hg
      have := h.box.symm.trans hh
      injection this with this; injection this with _ this _; exact tne3 this.symm
  have hbx := heap_setCell_same w Bd i _ _ v h.box
  refine { box := (by rw [hbx, ← hc]), names := ?_, dur := ⟨m, (by rw [hd]; exact hdn.same (hoth _ n2)), (by rw [hs]; omega)⟩, ne := h.ne, since := (by rw [hs]; exact ownsRow_same h.since fun g hg => hoth _ (n3 g hg)), nodup := h.nodup, file := fun j hj => (by rw [hf]; exact (h.file j hj).same (hoth _ (n4 j hj)) fun g hg => hoth _ (n5 j hj g hg)), apart := h.apart, nref := (by rw [hn]; exact h.nref), dref := (by rw [hd]; exact h.dref), sref := (by rw [hs]; exact h.sref), calls := (by omega), mBd := h.mBd, mnb := h.mnb, mdb := h.mdb, msv := h.msv, mid := h.mid, mrow := h.mrow }
  rw [hn]; exact (h.names.same (hoth _ n1)).mono (by omega)
end Go.Proofs.YtcmgppacipdnaaaGreatDoor

namespace Go.Proofs.YtcmgppacipdnaaaGreatDoor
open Go.RowKit

end Go.Proofs.YtcmgppacipdnaaaGreatDoor

namespace Go.Proofs.YtcmgppacipdnaaaGreatDoor
open Go.RowKit Go.Maps

/-- An error that is nil, or one of the package's. -/
def errR (p : Nat → Addr) : Option Nat → Value
  | none => .nilIface
  | some j => errV (p j)
/-- The errors that a disk tells. -/
abbrev SentsD (w : World) (p : Nat → Addr) : Prop := SentsOn (fun j => 4 ≤ j ∧ j ≤ 9) w p
theorem SentsD.c9 {w : World} {p : Nat → Addr} (h : SentsD w p) : w.cell? ⟨7, 0, none⟩ = some (errV (p 9)) := h.cell 9 (by omega)
theorem SentsD.c8 {w : World} {p : Nat → Addr} (h : SentsD w p) : w.cell? ⟨6, 0, none⟩ = some (errV (p 8)) := h.cell 8 (by omega)
theorem SentsD.c7 {w : World} {p : Nat → Addr} (h : SentsD w p) : w.cell? ⟨11, 0, none⟩ = some (errV (p 7)) := h.cell 7 (by omega)
theorem SentsD.c6 {w : World} {p : Nat → Addr} (h : SentsD w p) : w.cell? ⟨1, 0, none⟩ = some (errV (p 6)) := h.cell 6 (by omega)
theorem SentsD.c5 {w : World} {p : Nat → Addr} (h : SentsD w p) : w.cell? ⟨10, 0, none⟩ = some (errV (p 5)) := h.cell 5 (by omega)
theorem SentsD.c4 {w : World} {p : Nat → Addr} (h : SentsD w p) : w.cell? ⟨3, 0, none⟩ = some (errV (p 4)) := h.cell 4 (by omega)

theorem box_cell {w : World} {b : Nat} {c : Array Value} {t : TypeId} {fz : Nat × Nat} (h : w.heap[b]? = some (.cells c t fz)) (k : Nat) : w.cell? ⟨b, k, none⟩ = c[k]? := by simp [World.cell?, h]
theorem box_free {w : World} {b : Nat} {c : Array Value} {t : TypeId} (h : w.heap[b]? = some (.cells c t (0, 0))) (k : Nat) : w.frozen? ⟨b, k, none⟩ = false := by simp [World.frozen?, h]

theorem begin_set {w : World} {Bd nb db : Nat} {sv : Value} {ids : List Nat} {row : Nat → Value} {s : Dk.St} {S : Nat → Prop} (h : DiskL w Bd nb db sv ids row s S) (a : Int) (d : Bool) :
    DiskL ((w.setCell ⟨Bd, 6, none⟩ (.int .i64 a)).setCell ⟨Bd, 7, none⟩ (.bool d)) Bd nb db sv ids row { s with armed := a, down := d } S :=
  (h.set 6 (.int .i64 a) { s with armed := a } rfl rfl rfl rfl rfl (Int.le_refl _)).set 7 (.bool d) { s with armed := a, down := d } rfl rfl rfl rfl rfl (Int.le_refl _)

set_option maxRecDepth 100000 in
theorem begin_any (Bd nb db : Nat) (sv : Value) (ids : List Nat) (row : Nat → Value) (s : Dk.St) (S : Nat → Prop) (p : Nat → Addr) (w : World) (hs : SentsD w p) (h : DiskL w Bd nb db sv ids row s S) (ha : -9223372036854775808 ≤ s.armed ∧ s.armed ≤ 9223372036854775807) (_hB : Bd ≠ 7) :
    Calls Tryz.prog 164 #[.pointer (some ⟨Bd, 0, none⟩)] w fun e w' => e = .returned (errR p (if s.begin.down then some 9 else none)) ∧ DiskL w' Bd nb db sv ids row s.begin S ∧ Chg (fun k => k = Bd) w w' ∧ w'.heap.size = w.heap.size := by
  have c6 : w.cell? ⟨Bd, 6, none⟩ = some (.int .i64 s.armed) := box_cell h.box 6
  have c7 : w.cell? ⟨Bd, 7, none⟩ = some (.bool s.down) := box_cell h.box 7
  have f6 := box_free h.box 6
  have f7 := box_free h.box 7
  have g9 := hs.c9
  have HH := hide h
  obtain ⟨t, ht⟩ : ∃ t, t = s.begin := ⟨_, rfl⟩
  obtain ⟨r, hr⟩ : ∃ r : Option Nat, r = (if s.begin.down then some 9 else none) := ⟨_, rfl⟩
  rw [← hr, ← ht]
  have HT := hide ht
  have HR := hide hr
  clear h hs ht hr
  obtain ⟨room, names, dur, since, used, calls, armed, down, files⟩ := s
  simp only at c6 c7 ha
  have key : ∀ a d, t = { room, names, dur, since, used, calls, armed := a, down := d, files } → DiskL ((w.setCell ⟨Bd, 6, none⟩ (.int .i64 a)).setCell ⟨Bd, 7, none⟩ (.bool d)) Bd nb db sv ids row t S ∧ Chg (fun k => k = Bd) w ((w.setCell ⟨Bd, 6, none⟩ (.int .i64 a)).setCell ⟨Bd, 7, none⟩ (.bool d)) ∧ ((w.setCell ⟨Bd, 6, none⟩ (.int .i64 a)).setCell ⟨Bd, 7, none⟩ (.bool d)).heap.size = w.heap.size := fun a d e => by
    rw [e]
    exact ⟨begin_set HH.out a d, (Chg.setCell (S := fun k => k = Bd) w Bd 6 _ rfl).then (Chg.setCell (S := fun k => k = Bd) _ Bd 7 _ rfl), by simp⟩
  have KEY := hide key
  clear key
  by_cases h0 : 0 < armed
  · have hw : IntKind.i64.wrap (armed - 1) = armed - 1 := IntWalk.i64_in _ (by omega)
    cases down <;> by_cases h1 : armed - 1 = 0
    all_goals
      go_enter Tryz.func164, Tryz.ntmps164
      go_wp2_with fail
      go_ret
      exact ⟨by rw [HR.out]; simp [Dk.St.begin, h0, h1, errR], KEY.out _ _ (by rw [HT.out]; simp [Dk.St.begin, h0, h1])⟩
  · have key : t = { room, names, dur, since, used, calls, armed, down, files } := by rw [HT.out]; simp [Dk.St.begin, h0]
    have key2 : r = if down then some 9 else none := by rw [HR.out]; simp [Dk.St.begin, h0]
    have HK := hide key
    have HK2 := hide key2
    clear key key2
    cases down
    all_goals
      go_enter Tryz.func164, Tryz.ntmps164
      go_wp2_with fail
      go_ret
      exact ⟨by rw [HK2.out]; simp [errR], by rw [HK.out]; exact HH.out, Chg.refl _ _, rfl⟩
end Go.Proofs.YtcmgppacipdnaaaGreatDoor
