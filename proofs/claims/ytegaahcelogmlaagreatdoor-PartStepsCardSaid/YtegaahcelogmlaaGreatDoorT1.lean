/-
  Words for the walks: bytes as the numbers that they are, slices of bytes as memory has them. Nothing of any program is named here.
  What every frame of this program asks.
  A statement whose order is open, in which memory is made: each operation is shown once, from what its own operands are known to be; whatever order is drawn, at the end all that was shown holds. (What is known of a slot must outlive new blocks and draws.) Nothing of any program is named here.
  Errors as plain data: what the statements' own helpers (Is, Same, Fault, sentinel) answer at nil and at the package's errors as they are laid.
  Bytes in memory of the call's own: made, copied into, appended to, written; and read again. Words and laws for the walks, over the kit's laws on rows.
  Pieces of slices of bytes.
  From a row's reading of a slice of bytes to what the walks are told of it.
  What is owned, as an argument; what stays of an argument; its pieces.
  The statements' own helper 'Is': nil is Fine's number alone, an error of the package its own number alone.
  A statement whose order is open, with operations that are guarded ('&&', '||') and calls that may write: each operation is shown once, from what its own operands are known to be; what is known of a slot must outlive whatever the region does (a relation G of worlds). Not of any one program.
  A statement whose order is open, whose last operation stores what the others have made: each operation is shown once; what is known of a slot outlives whatever the region may do (a relation G of worlds). Not of any one program.
  What a row's reading says of an argument of ints.
  A slice of numbers that came in, as a walk is told of it.
  A copy of bytes in a row of its own: bytes.Clone.
  The statements' own helper Number.
  The statements' own copy of bytes.
  The statements' own equality of bytes.
-/
import Derived.WalkKit
import Derived.ProofKit
import Derived.Below
import Derived.Deep.Draws
import Derived.Laws.BitsAllLaws
import Derived.Test.YtegaahcelogmlaaGreatDoorRows
import Derived.LaidMore
import Derived.OpenShut
import Derived.ChangeOld
import Derived.Stop.Joined
import Derived.Orders
import Derived.Tactics
import Derived.LoopTactic
import Derived.LaidEqlPtr
import Derived.Outline
import Derived.Maps.AppendAt
import Derived.Laws.CopyOwn
import Derived.OwnWalk
import Derived.RegionTactic
import Derived.Handy
import Derived.Deep.QuietTactic
import Derived.BigQuiet
import Derived.Deep.Cut
import Derived.Deep.LoopGhost
namespace Go.Proofs.YtegaahcelogmlaaGreatDoor
open Go.RowKit

theorem hide {p : Prop} (h : p) : Hid p := h

/-- A byte as the number that it is. -/
def B (x : UInt8) : Int := (x.toNat : Int)
theorem B_lo (c : UInt8) : 0 ≤ B c := by unfold B; omega
theorem B_hi (c : UInt8) : B c < 256 := by unfold B; have := c.toNat_lt; omega
theorem B_inj {a b : UInt8} (h : B a = B b) : a = b := by unfold B at h; exact UInt8.toNat_inj.1 (by omega)
theorem B_of (n : Int) (h : 0 ≤ n) (h1 : n < 256) : ∃ c, n = B c := ⟨UInt8.ofNat n.toNat, by unfold B; rw [UInt8.toNat_ofNat']; omega⟩

theorem x8 (a b : UInt8) : bits .xor .u8 (B a) (B b) = B (a ^^^ b) := by
  unfold B
  rw [u8_xor_nat _ _ a.toNat_lt b.toNat_lt]; simp
theorem and8_15 (a : UInt8) : bits .and .u8 (B a) 15 = B (a &&& 15) := by
  unfold B
  rw [show (15 : Int) = ((15 : Nat) : Int) from rfl, u8_and_nat _ _ a.toNat_lt (by omega)]; simp
/-- A byte as an index. -/
def idx (c : UInt8) : Nat := c.toNat
theorem BtoNat (c : UInt8) : (B c).toNat = idx c := by unfold B idx; simp
theorem ofInt_i64 (a : Nat) (ha : a < 9223372036854775808) : (BitVec.ofInt 64 (a : Int)).toNat = a := by
  rw [BitVec.ofInt_natCast, BitVec.toNat_ofNat]; exact Nat.mod_eq_of_lt (by omega)
theorem i64_and1 (a : Nat) (ha : a < 9223372036854775808) : bits .and .i64 (a : Int) 1 = ((a % 2 : Nat) : Int) := by
  show IntKind.i64.wrap ((BitVec.ofInt 64 (a : Int) &&& BitVec.ofInt 64 (1 : Int)).toNat : Int) = _
  rw [BitVec.toNat_and, ofInt_i64 a ha, show (BitVec.ofInt 64 (1 : Int)).toNat = 1 from by decide, nat_mask1, IntKind.wrap_i64]
  omega

/-- A slice that reads as bytes: nil, empty or not. -/
def Reads (w : World) (A : Option Addr) (l : List UInt8) : Prop :=
  l = [] ∨ ∃ b off, A = some ⟨b, off, none⟩ ∧ b < w.heap.size ∧ ∀ k, k < l.length → w.cell? ⟨b, off + k, none⟩ = some (.int .u8 (B (l.getD k 0)))

/-- One text of a list of texts: where it lies, its room, its bytes. -/
structure Part where
  a : Option Addr
  cap : Nat
  l : List UInt8
def Part.val (p : Part) : Value := .slice p.a p.l.length p.cap
def flat (ps : List Part) : List UInt8 := ps.flatMap (·.l)
/-- A slice that reads as texts. -/
def ReadsAll (w : World) (A : Option Addr) (ps : List Part) : Prop :=
  ps = [] ∨ ∃ b off, A = some ⟨b, off, none⟩ ∧ b < w.heap.size ∧ ∀ k (h : k < ps.length), w.cell? ⟨b, off + k, none⟩ = some (ps[k].val) ∧ ps[k].l.length ≤ 9223372036854775807 ∧ Reads w ps[k].a ps[k].l
theorem Reads.drewN {w : World} {A : Option Addr} {l : List UInt8} (h : Reads w A l) (n : Nat) : Reads (w.drewN n) A l := h

theorem below_drewN {B : Nat} {a w : World} (h : Below B a w) (n : Nat) : Below B a (w.drewN n) := ⟨h.os, h.tape, h.output, h.size, h.block⟩
theorem Reads.alloc {w : World} {A : Option Addr} {l : List UInt8} (h : Reads w A l) (o : Obj) : Reads (w.alloc o) A l := by
  rcases h with h | ⟨b, off, e, hb, hc⟩
  · exact .inl h
  · exact .inr ⟨b, off, e, by simp; omega, fun k hk => (World.cell?_alloc_lt w o ⟨b, off + k, none⟩ hb).trans (hc k hk)⟩
/-- A new block of bytes reads as them. -/
theorem Reads.new (w : World) (l : List UInt8) (e : TypeId) (fr : Nat × Nat) : Reads (w.alloc (.cells (l.map fun x => Value.int .u8 (B x)).toArray e fr)) (some ⟨w.heap.size, 0, none⟩) l :=
  .inr ⟨_, _, rfl, by simp, fun k hk => by
    rw [World.cell?_alloc_mark]
    simp [hk]⟩

theorem readsAll_slice (w : World) (a : Option Addr) (n cap g : Nat) (l : List UInt8) (e : TypeId) (hn : l.length = n) (hg : g = w.heap.size) (h : Reads w a l) (hl : n ≤ 9223372036854775807) :
    ReadsAll (w.alloc (.cells #[.slice a n cap] e)) (some ⟨g, 0, none⟩) [⟨a, cap, l⟩] := by
  subst hn hg
  refine .inr ⟨_, _, rfl, by simp, fun k hk => ?_⟩
  have hk0 : k = 0 := by simpa using hk
  subst hk0
  refine ⟨?_, hl, h.alloc _⟩
  rw [World.cell?_alloc_mark]; simp [Part.val]

theorem bdrewN {B : Nat} {a w : World} (h : Below B a w) (n : Nat) : Below B a (w.drewN n) := ⟨h.os, h.tape, h.output, h.size, h.block⟩
theorem balloc {a w : World} (h : Below a.heap.size a w) (o : Obj) : Below a.heap.size a (w.alloc o) := h.alloc h.size o
theorem hideE {p : Prop} (h : p) : Hid p := h

theorem below_alloc {a w : World} (h : Below a.heap.size a w) (o : Obj) : Below a.heap.size a (w.alloc o) := h.alloc h.size o
end Go.Proofs.YtegaahcelogmlaaGreatDoor

namespace Go.Proofs.YtegaahcelogmlaaGreatDoor
open Go.RowKit Go.ChangeShapes Go.WideShapes Go.ChangeAt

theorem own : ownKnob Tryz.prog.godebug = none := by kernel_rfl
theorem laidOut : laidOutB Tryz.prog = true := by kernel_rfl
theorem cells_u8 : Tryz.prog.cellsOf 5 = 1 := by kernel_rfl
end Go.Proofs.YtegaahcelogmlaaGreatDoor

namespace Go.Proofs.YtegaahcelogmlaaGreatDoor
open Go Go.RowKit

/-- What an operation does, its operands read by 'ev'. -/
def OpRuns (P : Program) (ev : Operand → Value) (o : Oper) (w : World) (Post : Value → World → Prop) : Prop :=
  match (execOp ev o).run P w with
  | .ok (.value v) w' => Post v w'
  | .ok .skip w' => Post undef w'
  | .ok (.enter f args) w' => Calls P f args w' fun e w'' => ∃ v, e = .returned v ∧ Post v w''
  | _ => False

theorem OpRuns.wp {P : Program} {a : Act} {o : Oper} {w : World} {Post : Value → World → Prop} {K : Act → World → Prop} {Q : Exit → Act → World → Prop}
    (h : OpRuns P a.eval o w Post) (hK : ∀ v w', Post v w' → K (a.put o.dst v) w') : o.wp P a w K Q := by
  unfold OpRuns at h
  unfold Oper.wp
  generalize (execOp a.eval o).run P w = r at *
  cases r with
  | ok n w' =>
    cases n <;> simp only at h <;> simp only [Oper.upon]
    case value v => exact hK _ _ h
    case skip => exact hK _ _ h
    case enter f args => exact h.mono fun e w'' ⟨v, he, hp⟩ => by subst he; exact hK _ _ hp
  | halt x w' => simp only at h

/-- Where an operation leaves its value. -/
def dstOf (ops : Array Oper) (i : Nat) : Nat := ((ops[i]?).bind (·.dst)).getD 0
def dstsOf (ops : Array Oper) : List Nat := (List.range (ops.size - 1)).map (dstOf ops)

/-- The form of such a region: no guard; each but the last leaves a value in a slot of its own; each waits for earlier ones alone; the last waits for all. -/
def openForm (ops : Array Oper) : Bool :=
  decide (0 < ops.size) &&
  (List.range ops.size).all (fun i => match ops[i]? with
    | some o => o.guard.isNone && o.after.all (fun e => decide (e.on < i)) && (decide (i = ops.size - 1) || o.dst.isSome)
    | none => false) &&
  (List.range (ops.size - 1)).all (fun i => match ops[ops.size - 1]? with
    | some o => o.after.any (fun e => e.on == i && Region.binds .any e)
    | none => false) &&
  decide (dstsOf ops).Nodup

/-- The frame with such values in such slots. -/
def puts (a : Act) (f : Nat → Value) : List Nat → Act
  | [] => a
  | d :: ds => puts (a.put (some d) (f d)) f ds

theorem puts_defers (a : Act) (f : Nat → Value) (ds : List Nat) : (puts a f ds).defers = a.defers := by
  induction ds generalizing a with
  | nil => rfl
  | cons d ds ih => simp only [puts]; rw [ih]; rfl
theorem puts_size (a : Act) (f : Nat → Value) (ds : List Nat) : (puts a f ds).tmps.size = a.tmps.size := by
  induction ds generalizing a with
  | nil => rfl
  | cons d ds ih => simp only [puts]; rw [ih]; simp [Act.put]
theorem puts_get (a : Act) (f : Nat → Value) (ds : List Nat) (k : Nat) : (puts a f ds).tmps[k]? = if k ∈ ds ∧ k < a.tmps.size then some (f k) else a.tmps[k]? := by
  induction ds generalizing a with
  | nil => simp [puts]
  | cons d ds ih =>
    simp only [puts]
    rw [ih]
    by_cases hk : k < a.tmps.size
    · by_cases hm : k ∈ ds
      · simp [hm, hk, Act.put]
      · by_cases hd : k = d
        · subst hd; simp [hm, hk, Act.put]
        · have hd' : d ≠ k := fun e => hd e.symm
          simp [hm, hd, hd', Act.put]
    · simp [hk, Act.put]

theorem act_eq {x y : Act} (h1 : x.tmps = y.tmps) (h2 : x.defers = y.defers) : x = y := by
  cases x; cases y
  simp only at h1 h2
  subst h1 h2; rfl

/-- What holds in the midst of the region. -/
structure Midst (P : Program) (ops : Array Oper) (D : Nat → Value → World → Prop) (a : Act) (w : World) (listed : Array Bool) (a' : Act) (w' : World) : Prop where
  size : a'.tmps.size = a.tmps.size
  defers : a'.defers = a.defers
  same : ∀ k, k ∉ dstsOf ops → a'.tmps[k]? = a.tmps[k]?
  below : Below w.heap.size w w'
  known : ∀ i, i < ops.size - 1 → listed.getD i false = true → D (dstOf ops i) (a'.tmps.getD (dstOf ops i) undef) w'

theorem dst_mem {ops : Array Oper} {i : Nat} (h : i < ops.size - 1) : dstOf ops i ∈ dstsOf ops := List.mem_map.2 ⟨i, List.mem_range.2 h, rfl⟩
theorem dst_inj {ops : Array Oper} (hn : (dstsOf ops).Nodup) {i j : Nat} (hi : i < ops.size - 1) (hj : j < ops.size - 1) (h : dstOf ops i = dstOf ops j) : i = j := by
  have h1 : (dstsOf ops)[i]? = some (dstOf ops i) := by simp [dstsOf, hi]
  have h2 : (dstsOf ops)[j]? = some (dstOf ops j) := by simp [dstsOf, hj]
  have hl : (dstsOf ops).length = ops.size - 1 := by simp [dstsOf]
  exact (List.getElem?_inj (by omega) hn).1 (by rw [h1, h2, h])

theorem getD_set_self {listed : Array Bool} {i : Nat} (h : i < listed.size) (d : Bool) : (listed.setIfInBounds i true).getD i d = true := by
  simp [h]

/-- How many are still to come. -/
def todo (listed : Array Bool) : Nat := listed.toList.count false
theorem todo_set {listed : Array Bool} {i : Nat} (hi : i < listed.size) (h : listed.getD i true = false) : todo (listed.setIfInBounds i true) + 1 = todo listed := by
  unfold todo
  have hg : listed.toList[i]? = some false := by
    have : listed[i] = false := by simpa [hi] using h
    simp [hi, this]
  obtain ⟨l1, l2, e, hl⟩ : ∃ l1 l2, listed.toList = l1 ++ false :: l2 ∧ l1.length = i := by
    refine ⟨listed.toList.take i, listed.toList.drop (i + 1), ?_, by simp; omega⟩
    have hlt : i < listed.toList.length := by simpa using hi
    have hv : listed.toList[i] = false := by
      rw [List.getElem?_eq_getElem hlt] at hg
      exact Option.some.inj hg
    have h2 := List.take_append_drop i listed.toList
    rw [List.drop_eq_getElem_cons hlt, hv] at h2
    exact h2.symm
  rw [Array.toList_setIfInBounds, e, ← hl]
  simp [List.count_append]
  omega

theorem wpAny_open {P : Program} {ops : Array Oper} {Q : Exit → Act → World → Prop} {D : Nat → Value → World → Prop} {a : Act} {w : World} (hB : openForm ops = true)
    (hfit : ∀ d ∈ dstsOf ops, d < a.tmps.size)
    (stable : ∀ d v w1 w2, D d v w1 → Below w1.heap.size w1 w2 → D d v w2)
    (step : ∀ i o, i < ops.size - 1 → ops[i]? = some o → ∀ (ev : Operand → Value) w1, Below w.heap.size w w1 → (∀ x, (∀ d ∈ dstsOf ops, x ≠ .tmp d) → ev x = a.eval x) →
      (∀ e ∈ o.after.toList, e.on < ops.size - 1 → Region.binds .any e = true → D (dstOf ops e.on) (ev (.tmp (dstOf ops e.on))) w1) → OpRuns P ev o w1 fun v w2 => Below w1.heap.size w1 w2 ∧ D (dstOf ops i) v w2)
    (last : ∀ o, ops[ops.size - 1]? = some o → ∀ f w1, Below w.heap.size w w1 → (∀ d ∈ dstsOf ops, D d (f d) w1) → o.wp P (puts a f (dstsOf ops)) w1 (fun a' w' => Q .normal a' w') Q ∨ (o.asks P (puts a f (dstsOf ops)) w1 ∧ LetsOut Q)) :
    ∀ (fuel : Nat) (listed : Array Bool) (a' : Act) (w' : World), listed.size = ops.size → todo listed = fuel →
      (listed.getD (ops.size - 1) true = false → Midst P ops D a w listed a' w') → (listed.getD (ops.size - 1) true = true → todo listed = 0 ∧ Q .normal a' w') → wpAny P .any ops Q fuel listed a' w' := by
  have hB' := hB
  simp only [openForm, Bool.and_eq_true, decide_eq_true_eq, List.all_eq_true, List.mem_range] at hB'
  obtain ⟨⟨⟨hpos, hall⟩, hlast⟩, hnd⟩ := hB'
  -- each operation's own form
  have form : ∀ i o, ops[i]? = some o → o.guard = none ∧ (∀ e ∈ o.after.toList, e.on < i) ∧ (i = ops.size - 1 ∨ o.dst.isSome = true) := by
    intro i o ho
    have hi : i < ops.size := (Array.getElem?_eq_some_iff.1 ho).1
    have h := hall i hi
    rw [ho] at h
    simp only [Bool.and_eq_true, Bool.or_eq_true, decide_eq_true_eq, Option.isNone_iff_eq_none] at h
    refine ⟨h.1.1, fun e he => ?_, h.2⟩
    have := Array.all_eq_true_iff_forall_mem.1 h.1.2 e (by simpa using he)
    simpa using this
  -- where some are still to come one may come up
  have alive : ∀ listed : Array Bool, listed.size = ops.size → 0 < todo listed → Region.ready .any ops listed ≠ [] := by
    intro listed hs ht he
    obtain ⟨i, hi⟩ : ∃ i, i < ops.size ∧ listed.getD i true = false := by
      unfold todo at ht
      obtain ⟨i, hi, e⟩ := List.mem_iff_getElem.1 (List.count_pos_iff.1 ht)
      have hi' : i < listed.size := by simpa using hi
      exact ⟨i, by omega, by simpa [hi'] using e⟩
    obtain ⟨n, ⟨hn, hf⟩, hmin⟩ : ∃ n, (n < ops.size ∧ listed.getD n true = false) ∧ ∀ m, m < n → listed.getD m true = true := by
      have : ∀ k i, i < k → i < ops.size → listed.getD i true = false → ∃ n, (n < ops.size ∧ listed.getD n true = false) ∧ ∀ m, m < n → listed.getD m true = true := by
        intro k
        induction k with
        | zero => intro i h; omega
        | succ k ih =>
          intro i hik h1 h2
          by_cases hm : ∃ m, m < i ∧ listed.getD m true = false
          · obtain ⟨m, hmi, hmf⟩ := hm
            exact ih m (by omega) (by omega) hmf
          · refine ⟨i, ⟨h1, h2⟩, fun m hmi => ?_⟩
            rcases Bool.eq_false_or_eq_true (listed.getD m true) with h | h
            · exact h
            · exact absurd ⟨m, hmi, h⟩ hm
      exact this (i + 1) i (by omega) hi.1 hi.2
    have hmem : n ∈ Region.ready .any ops listed := by
      refine mem_ready.2 ⟨hf, ops[n], by simp [hn], fun e hee _ => ?_⟩
      have hlt := (form n ops[n] (by simp [hn])).2.1 e (by simpa using hee)
      have := hmin e.on hlt
      have hsz : e.on < listed.size := by omega
      simpa [hsz] using this
    rw [he] at hmem
    cases hmem
  intro fuel
  induction fuel with
  | zero =>
    intro listed a' w' hs ht _ hdone
    have hl : listed.getD (ops.size - 1) true = true := by
      rcases Bool.eq_false_or_eq_true (listed.getD (ops.size - 1) true) with h | h
      · exact h
      · have := todo_set (i := ops.size - 1) (listed := listed) (by omega) h
        omega
    refine ⟨?_, (hdone hl).2⟩
    match hr : Region.ready .any ops listed with
    | [] => rfl
    | i :: _ =>
      exfalso
      have hi : i ∈ Region.ready .any ops listed := by rw [hr]; exact List.mem_cons_self
      obtain ⟨h1, o, ho, _⟩ := mem_ready.1 hi
      have hlt : i < ops.size := (Array.getElem?_eq_some_iff.1 ho).1
      have := todo_set (i := i) (listed := listed) (by omega) h1
      omega
  | succ fuel ih =>
    intro listed a' w' hs ht hmid hdone
    refine ⟨fun he => absurd he (alive listed hs (by omega)), fun i hi => ?_⟩
    obtain ⟨h1, o, ho, hdeps⟩ := mem_ready.1 hi
    have hlt : i < ops.size := (Array.getElem?_eq_some_iff.1 ho).1
    have hset := todo_set (i := i) (listed := listed) (by omega) h1
    obtain ⟨hg, hon, hdst⟩ := form i o ho
    have hl : listed.getD (ops.size - 1) true = false := by
      rcases Bool.eq_false_or_eq_true (listed.getD (ops.size - 1) true) with h | h
      · have := (hdone h).1; omega
      · exact h
    have M := hmid hl
    unfold wpOp
    simp only [ho]
    rw [if_pos (by simp [Region.wanted, hg])]
    by_cases hil : i = ops.size - 1
    · -- the last: all others have come up
      subst hil
      have hallL : ∀ j, j < ops.size - 1 → listed.getD j false = true := by
        intro j hj
        have h := hlast j hj
        rw [ho] at h
        simp only [Array.any_eq_true, Bool.and_eq_true, beq_iff_eq] at h
        obtain ⟨k, hk, h2, h3⟩ := h
        have := hdeps o.after[k] (Array.getElem_mem hk) h3
        rwa [h2] at this
      have hput : a' = puts a (fun k => a'.tmps.getD k undef) (dstsOf ops) := by
        have ht : a'.tmps = (puts a (fun k => a'.tmps.getD k undef) (dstsOf ops)).tmps := by
          apply Array.ext_getElem?
          intro k
          rw [puts_get]
          split
          · rename_i h
            have hk : k < a'.tmps.size := by rw [M.size]; exact h.2
            simp [hk]
          · rename_i h
            by_cases hk : k ∈ dstsOf ops
            · exact absurd ⟨hk, hfit k hk⟩ h
            · exact M.same k hk
        have hd : a'.defers = (puts a (fun k => a'.tmps.getD k undef) (dstsOf ops)).defers := by rw [puts_defers, M.defers]
        exact act_eq ht hd
      have h := last o ho (fun k => a'.tmps.getD k undef) w' M.below (fun d hd => by
        obtain ⟨j, hj, rfl⟩ := List.mem_map.1 hd
        exact M.known j (List.mem_range.1 hj) (hallL j (List.mem_range.1 hj)))
      rw [← hput] at h
      have hall0 : todo (listed.setIfInBounds (ops.size - 1) true) = 0 := by
        unfold todo
        rw [List.count_eq_zero]
        intro hmem
        obtain ⟨j, hj, e⟩ := List.mem_iff_getElem.1 hmem
        have hj' : j < listed.size := by simpa using hj
        by_cases hjl : j = ops.size - 1
        · subst hjl
          simp at e
        · have h2 := hallL j (by omega)
          have e2 : listed[j] = false := by
            simpa [Array.getElem_setIfInBounds, Ne.symm hjl] using e
          simp [hj', e2] at h2
      refine h.imp (fun h => Oper.wp_mono (fun a2 w2 hq => ih _ a2 w2 (by simpa using hs) (by omega) (fun h => ?_) (fun _ => ⟨hall0, hq⟩)) h) id
      rw [getD_set_self (by omega)] at h
      cases h
    · -- one of the others
      have hi1 : i < ops.size - 1 := by omega
      obtain ⟨d, hd⟩ : ∃ d, o.dst = some d := Option.isSome_iff_exists.1 (hdst.resolve_left hil)
      have hdi : dstOf ops i = d := by simp [dstOf, ho, hd]
      have hdm : d ∈ dstsOf ops := hdi ▸ dst_mem hi1
      have hr := step i o hi1 ho a'.eval w' M.below (fun x hx => by
        cases x with
        | tmp t =>
          have hm : t ∉ dstsOf ops := fun hm => hx t hm rfl
          have := M.same t hm
          simp only [Act.eval, Array.getD_eq_getD_getElem?, this]
        | const c => rfl
        | global g => rfl
        | func f => rfl) (fun e he hen hbd => M.known e.on hen (hdeps e (by simpa using he) hbd))
      left
      refine hr.wp fun v w2 ⟨hb2, hD⟩ => ih _ _ w2 (by simpa using hs) (by omega) (fun _ => ?_) (fun h => ?_)
      · rw [hd]
        refine ⟨by simp [Act.put, M.size], by simp [Act.put, M.defers], fun k hk => ?_, M.below.trans (hb2.mono M.below.size), fun j hj hjl => ?_⟩
        · have hkd : d ≠ k := fun e => hk (e ▸ hdm)
          simp only [Act.put, Array.getElem?_setIfInBounds, if_neg hkd]
          exact M.same k hk
        · by_cases hji : j = i
          · subst hji
            rw [hdi] at hD ⊢
            have hds : d < a'.tmps.size := by rw [M.size]; exact hfit d hdm
            simpa [Act.put, hds] using hD
          · have hne : d ≠ dstOf ops j := fun e => hji (dst_inj hnd hj hi1 (by rw [hdi, e]))
            have hold : listed.getD j false = true := by rwa [getD_set_ne false (Ne.symm hji)] at hjl
            have := stable _ _ _ _ (M.known j hj hold) hb2
            simpa [Act.put, Array.getElem?_setIfInBounds, hne] using this
      · rw [getD_set_ne true hil] at h
        rw [hl] at h
        cases h

/-- THE LAW. -/
theorem wp_region_open {P : Program} {id : Nat} {ops : Array Oper} {Q : Exit → Act → World → Prop} (D : Nat → Value → World → Prop) {a : Act} {w : World} (hm : P.follows .mixedOrders = true) (hB : openForm ops = true)
    (hfit : ((dstsOf ops).all fun d => decide (d < a.tmps.size)) = true)
    (stable : ∀ d v w1 w2, D d v w1 → Below w1.heap.size w1 w2 → D d v w2)
    (step : ∀ i o, i < ops.size - 1 → ops[i]? = some o → ∀ (ev : Operand → Value) w1, Below w.heap.size w w1 → (∀ x, (∀ d ∈ dstsOf ops, x ≠ .tmp d) → ev x = a.eval x) →
      (∀ e ∈ o.after.toList, e.on < ops.size - 1 → Region.binds .any e = true → D (dstOf ops e.on) (ev (.tmp (dstOf ops e.on))) w1) → OpRuns P ev o w1 fun v w2 => Below w1.heap.size w1 w2 ∧ D (dstOf ops i) v w2)
    (last : ∀ o, ops[ops.size - 1]? = some o → ∀ f w1, Below w.heap.size w w1 → (∀ d ∈ dstsOf ops, D d (f d) w1) → wpList P ops Q [o] (puts a f (dstsOf ops)) w1) : (Code.region id ops true).wp P Q a w := by
  have hB' := hB
  simp only [openForm, Bool.and_eq_true, decide_eq_true_eq] at hB'
  have hpos := hB'.1.1.1
  refine wp_region_any hm (wpAny_open (D := D) (w := { w with drawn := w.drawn + 1 }) hB (fun d hd => by simpa using List.all_eq_true.1 hfit d hd) stable
    (fun i o hi ho ev w1 hb => step i o hi ho ev w1 ⟨hb.os, hb.tape, hb.output, hb.size, hb.block⟩) (fun o ho f w1 hb hD => ?_) _ _ _ _ (by simp) ?_ (fun _ => ?_) (fun h => ?_))
  · have h := last o ho f w1 ⟨hb.os, hb.tape, hb.output, hb.size, hb.block⟩ hD
    have hall := hB'.1.1.2
    rw [List.all_eq_true] at hall
    have hg := hall (ops.size - 1) (List.mem_range.2 (by omega))
    rw [ho] at hg
    simp only [Bool.and_eq_true, Option.isNone_iff_eq_none] at hg
    unfold wpList at h
    rw [if_pos (by simp [Region.wanted, hg.1.1])] at h
    exact h
  · simp [todo]
  · refine ⟨rfl, rfl, fun _ _ => rfl, Below.refl _ _, fun i hi h => ?_⟩
    have h0 : (Array.replicate ops.size false).getD i false = false := by simp [show i < ops.size by omega]
    rw [h0] at h; cases h
  · have h0 : (Array.replicate ops.size false).getD (ops.size - 1) true = false := by simp [show ops.size - 1 < ops.size by omega]
    rw [h0] at h; cases h
/-! ### The same, for a region that is written out -/

/-- What is known of a slot, and outlives new blocks and draws. -/
structure Known where
  p : Value → World → Prop
  st : ∀ v w1 w2, p v w1 → Below w1.heap.size w1 w2 → p v w2
/-- The slot holds this value. -/
def Known.is (x : Value) : Known := ⟨fun v _ => v = x, fun _ _ _ h _ => h⟩
def Known.any : Known := ⟨fun _ _ => True, fun _ _ _ _ _ => trivial⟩
/-- The slot holds a slice of one cell, a new block's, with this in it. -/
def Known.one (x : Value) : Known := ⟨fun v w => ∃ g, v = .slice (some ⟨g, 0, none⟩) 1 1 ∧ g < w.heap.size ∧ w.cell? ⟨g, 0, none⟩ = some x,
  fun _ _ _ ⟨g, h1, h2, h3⟩ hb => ⟨g, h1, Nat.lt_of_lt_of_le h2 hb.size, (hb.cell (p := ⟨g, 0, none⟩) h2).trans h3⟩⟩

def DepsOk (dsts : List Nat) (T : Nat → Known) (ev : Operand → Value) (w1 : World) : List Edge → Prop
  | [] => True
  | e :: es => (T (dsts.getD e.on 0)).p (ev (.tmp (dsts.getD e.on 0))) w1 ∧ DepsOk dsts T ev w1 es
def StepOk (P : Program) (dsts : List Nat) (T : Nat → Known) (a : Act) (w : World) (o : Oper) (d : Nat) : Prop :=
  ∀ (ev : Operand → Value) w1, Below w.heap.size w w1 → (∀ x, (∀ d ∈ dsts, x ≠ .tmp d) → ev x = a.eval x) → DepsOk dsts T ev w1 o.after.toList → OpRuns P ev o w1 fun v w2 => Below w1.heap.size w1 w2 ∧ (T d).p v w2
def StepsOk (P : Program) (dsts : List Nat) (T : Nat → Known) (a : Act) (w : World) : List Oper → List Nat → Prop
  | o :: os, d :: ds => StepOk P dsts T a w o d ∧ StepsOk P dsts T a w os ds
  | _, _ => True

theorem depsOk_of {dsts : List Nat} {T : Nat → Known} {ev : Operand → Value} {w1 : World} : ∀ {es : List Edge}, (∀ e ∈ es, (T (dsts.getD e.on 0)).p (ev (.tmp (dsts.getD e.on 0))) w1) → DepsOk dsts T ev w1 es
  | [], _ => trivial
  | e :: _, h => ⟨h e List.mem_cons_self, depsOk_of fun e' he => h e' (List.mem_cons_of_mem _ he)⟩
theorem stepsOk_at {P : Program} {dsts : List Nat} {T : Nat → Known} {a : Act} {w : World} : ∀ {os : List Oper} {ds : List Nat} (_ : StepsOk P dsts T a w os ds) (i : Nat) {o : Oper} {d : Nat}, os[i]? = some o → ds[i]? = some d → StepOk P dsts T a w o d
  | [], _, _, i, o, _, ho, _ => by simp at ho
  | _ :: _, [], _, i, _, d, _, hd => by simp at hd
  | o' :: os, d' :: ds, h, 0, o, d, ho, hd => by
    simp at ho hd
    subst ho hd
    exact h.1
  | o' :: os, d' :: ds, h, i + 1, o, d, ho, hd => stepsOk_at h.2 i (by simpa using ho) (by simpa using hd)

/-- All edges bind. -/
def edgesBind (ops : Array Oper) : Bool := ops.all fun o => o.after.all fun e => Region.binds .any e

theorem wp_region_made {P : Program} {id : Nat} {ops : Array Oper} {Q : Exit → Act → World → Prop} (dsts : List Nat) (T : Nat → Known) (o : Oper) {a : Act} {w : World} (hm : P.follows .mixedOrders = true)
    (hB : (openForm ops && edgesBind ops && decide (dstsOf ops = dsts)) = true)
    (ho : ops[ops.size - 1]? = some o)
    (hfit : (dsts.all fun d => decide (d < a.tmps.size)) = true)
    (steps : StepsOk P dsts T a w (ops.toList.take (ops.size - 1)) dsts)
    (last : ∀ f w1, Below w.heap.size w w1 → (∀ d ∈ dsts, (T d).p (f d) w1) → wpList P ops Q [o] (puts a f dsts) w1) : (Code.region id ops true).wp P Q a w := by
  simp only [Bool.and_eq_true, decide_eq_true_eq] at hB
  obtain ⟨⟨hB, hbind⟩, rfl⟩ := hB
  have hB' := hB
  simp only [openForm, Bool.and_eq_true, decide_eq_true_eq] at hB'
  have hform := hB'.1.1.2
  rw [List.all_eq_true] at hform
  refine wp_region_open (fun d v w => (T d).p v w) hm hB hfit (fun d v w1 w2 h hb => (T d).st v w1 w2 h hb) ?_ (fun o' ho' f w1 hb h => ?_)
  · intro i o hi ho ev w1 hb hev hdeps
    have hlt : i < ops.size := by omega
    have h1 := stepsOk_at steps i (o := o) (d := dstOf ops i) (by
      rw [List.getElem?_take, if_pos hi]
      simpa using ho) (by simp [dstsOf, hi])
    refine h1 ev w1 hb hev (depsOk_of fun e he => ?_)
    have hf := hform i (List.mem_range.2 hlt)
    rw [ho] at hf
    simp only [Bool.and_eq_true] at hf
    have hon : e.on < i := by simpa using Array.all_eq_true_iff_forall_mem.1 hf.1.2 e (by simpa using he)
    have hbd : Region.binds .any e = true := by
      have h2 := Array.all_eq_true_iff_forall_mem.1 hbind o (Array.mem_of_getElem? ho)
      exact Array.all_eq_true_iff_forall_mem.1 h2 e (by simpa using he)
    have hg : (dstsOf ops).getD e.on 0 = dstOf ops e.on := by simp [dstsOf, List.getD, show e.on < ops.size - 1 by omega]
    rw [hg]
    exact hdeps e he (by omega) hbd
  · obtain rfl : o' = o := Option.some.inj (ho'.symm.trans ho)
    exact last f w1 hb h

/-! ### The same where the last operation too only leaves a value (and need not wait for all) -/

def dstsAll (ops : Array Oper) : List Nat := (List.range ops.size).map (dstOf ops)
def openAll (ops : Array Oper) : Bool :=
  (List.range ops.size).all (fun i => match ops[i]? with
    | some o => o.guard.isNone && o.after.all (fun e => decide (e.on < i)) && o.dst.isSome
    | none => false) &&
  decide (dstsAll ops).Nodup

structure MidstAll (ops : Array Oper) (D : Nat → Value → World → Prop) (a : Act) (w : World) (listed : Array Bool) (a' : Act) (w' : World) : Prop where
  size : a'.tmps.size = a.tmps.size
  defers : a'.defers = a.defers
  same : ∀ k, k ∉ dstsAll ops → a'.tmps[k]? = a.tmps[k]?
  below : Below w.heap.size w w'
  known : ∀ i, i < ops.size → listed.getD i false = true → D (dstOf ops i) (a'.tmps.getD (dstOf ops i) undef) w'

theorem dstAll_mem {ops : Array Oper} {i : Nat} (h : i < ops.size) : dstOf ops i ∈ dstsAll ops := List.mem_map.2 ⟨i, List.mem_range.2 h, rfl⟩
theorem dstAll_inj {ops : Array Oper} (hn : (dstsAll ops).Nodup) {i j : Nat} (hi : i < ops.size) (hj : j < ops.size) (h : dstOf ops i = dstOf ops j) : i = j := by
  have h1 : (dstsAll ops)[i]? = some (dstOf ops i) := by simp [dstsAll, hi]
  have h2 : (dstsAll ops)[j]? = some (dstOf ops j) := by simp [dstsAll, hj]
  have hl : (dstsAll ops).length = ops.size := by simp [dstsAll]
  exact (List.getElem?_inj (by omega) hn).1 (by rw [h1, h2, h])

theorem wpAny_all {P : Program} {ops : Array Oper} {Q : Exit → Act → World → Prop} {D : Nat → Value → World → Prop} {a : Act} {w : World} (hB : openAll ops = true)
    (hfit : ∀ d ∈ dstsAll ops, d < a.tmps.size)
    (stable : ∀ d v w1 w2, D d v w1 → Below w1.heap.size w1 w2 → D d v w2)
    (step : ∀ i o, ops[i]? = some o → ∀ (ev : Operand → Value) w1, Below w.heap.size w w1 → (∀ x, (∀ d ∈ dstsAll ops, x ≠ .tmp d) → ev x = a.eval x) →
      (∀ e ∈ o.after.toList, Region.binds .any e = true → D (dstOf ops e.on) (ev (.tmp (dstOf ops e.on))) w1) → OpRuns P ev o w1 fun v w2 => Below w1.heap.size w1 w2 ∧ D (dstOf ops i) v w2)
    (last : ∀ f w1, Below w.heap.size w w1 → (∀ d ∈ dstsAll ops, D d (f d) w1) → Q .normal (puts a f (dstsAll ops)) w1) :
    ∀ (fuel : Nat) (listed : Array Bool) (a' : Act) (w' : World), listed.size = ops.size → todo listed = fuel → MidstAll ops D a w listed a' w' → wpAny P .any ops Q fuel listed a' w' := by
  have hB' := hB
  simp only [openAll, Bool.and_eq_true, decide_eq_true_eq, List.all_eq_true, List.mem_range] at hB'
  obtain ⟨hall, hnd⟩ := hB'
  have form : ∀ (i : Nat) (o : Oper), ops[i]? = some o → o.guard = none ∧ (∀ e ∈ o.after.toList, e.on < i) ∧ o.dst.isSome = true := by
    intro i o ho
    have hi : i < ops.size := (Array.getElem?_eq_some_iff.1 ho).1
    have h := hall i hi
    rw [ho] at h
    simp only [Bool.and_eq_true, Option.isNone_iff_eq_none] at h
    refine ⟨h.1.1, fun e he => ?_, h.2⟩
    have := Array.all_eq_true_iff_forall_mem.1 h.1.2 e (by simpa using he)
    simpa using this
  have alive : ∀ listed : Array Bool, listed.size = ops.size → 0 < todo listed → Region.ready .any ops listed ≠ [] := by
    intro listed hs ht he
    obtain ⟨i, hi⟩ : ∃ i, i < ops.size ∧ listed.getD i true = false := by
      unfold todo at ht
      obtain ⟨i, hi, e⟩ := List.mem_iff_getElem.1 (List.count_pos_iff.1 ht)
      have hi' : i < listed.size := by simpa using hi
      exact ⟨i, by omega, by simpa [hi'] using e⟩
    obtain ⟨n, ⟨hn, hf⟩, hmin⟩ : ∃ n, (n < ops.size ∧ listed.getD n true = false) ∧ ∀ m, m < n → listed.getD m true = true := by
      have : ∀ k i, i < k → i < ops.size → listed.getD i true = false → ∃ n, (n < ops.size ∧ listed.getD n true = false) ∧ ∀ m, m < n → listed.getD m true = true := by
        intro k
        induction k with
        | zero => intro i h; omega
        | succ k ih =>
          intro i hik h1 h2
          by_cases hm : ∃ m, m < i ∧ listed.getD m true = false
          · obtain ⟨m, hmi, hmf⟩ := hm
            exact ih m (by omega) (by omega) hmf
          · refine ⟨i, ⟨h1, h2⟩, fun m hmi => ?_⟩
            rcases Bool.eq_false_or_eq_true (listed.getD m true) with h | h
            · exact h
            · exact absurd ⟨m, hmi, h⟩ hm
      exact this (i + 1) i (by omega) hi.1 hi.2
    have hmem : n ∈ Region.ready .any ops listed := by
      refine mem_ready.2 ⟨hf, ops[n], by simp [hn], fun e hee _ => ?_⟩
      have hlt := (form n ops[n] (by simp [hn])).2.1 e (by simpa using hee)
      have := hmin e.on hlt
      have hsz : e.on < listed.size := by omega
      simpa [hsz] using this
    rw [he] at hmem
    cases hmem
  intro fuel
  induction fuel with
  | zero =>
    intro listed a' w' hs ht M
    have hdone : ∀ i, i < ops.size → listed.getD i true = true := by
      intro i hi
      rcases Bool.eq_false_or_eq_true (listed.getD i true) with h | h
      · exact h
      · have := todo_set (i := i) (listed := listed) (by omega) h
        omega
    refine ⟨?_, ?_⟩
    · match hr : Region.ready .any ops listed with
      | [] => rfl
      | i :: _ =>
        exfalso
        have hi : i ∈ Region.ready .any ops listed := by rw [hr]; exact List.mem_cons_self
        obtain ⟨h1, o, ho, _⟩ := mem_ready.1 hi
        have hlt : i < ops.size := (Array.getElem?_eq_some_iff.1 ho).1
        rw [hdone i hlt] at h1
        cases h1
    · have hput : a' = puts a (fun k => a'.tmps.getD k undef) (dstsAll ops) := by
        refine act_eq ?_ (by rw [puts_defers, M.defers])
        apply Array.ext_getElem?
        intro k
        rw [puts_get]
        split
        · rename_i h
          have hk : k < a'.tmps.size := by rw [M.size]; exact h.2
          simp [hk]
        · rename_i h
          by_cases hk : k ∈ dstsAll ops
          · exact absurd ⟨hk, hfit k hk⟩ h
          · exact M.same k hk
      have h := last (fun k => a'.tmps.getD k undef) w' M.below (fun d hd => by
        obtain ⟨j, hj, rfl⟩ := List.mem_map.1 hd
        have hj' := List.mem_range.1 hj
        refine M.known j hj' ?_
        have := hdone j hj'
        have hsz : j < listed.size := by omega
        simpa [hsz] using this)
      rwa [← hput] at h
  | succ fuel ih =>
    intro listed a' w' hs ht M
    refine ⟨fun he => absurd he (alive listed hs (by omega)), fun i hi => ?_⟩
    obtain ⟨h1, o, ho, hdeps⟩ := mem_ready.1 hi
    have hlt : i < ops.size := (Array.getElem?_eq_some_iff.1 ho).1
    have hset := todo_set (i := i) (listed := listed) (by omega) h1
    obtain ⟨hg, hon, hdst⟩ := form i o ho
    unfold wpOp
    simp only [ho]
    rw [if_pos (by simp [Region.wanted, hg])]
    left
    obtain ⟨d, hd⟩ : ∃ d, o.dst = some d := Option.isSome_iff_exists.1 hdst
    have hdi : dstOf ops i = d := by simp [dstOf, ho, hd]
    have hdm : d ∈ dstsAll ops := hdi ▸ dstAll_mem hlt
    have hr := step i o ho a'.eval w' M.below (fun x hx => by
      cases x with
      | tmp t =>
        have hm : t ∉ dstsAll ops := fun hm => hx t hm rfl
        have := M.same t hm
        simp only [Act.eval, Array.getD_eq_getD_getElem?, this]
      | const c => rfl
      | global g => rfl
      | func f => rfl) (fun e he hbd => M.known e.on (by have := hon e he; omega) (hdeps e (by simpa using he) hbd))
    refine hr.wp fun v w2 ⟨hb2, hD⟩ => ih _ _ w2 (by simpa using hs) (by omega) ?_
    rw [hd]
    refine ⟨by simp [Act.put, M.size], by simp [Act.put, M.defers], fun k hk => ?_, M.below.trans (hb2.mono M.below.size), fun j hj hjl => ?_⟩
    · have hkd : d ≠ k := fun e => hk (e ▸ hdm)
      simp only [Act.put, Array.getElem?_setIfInBounds, if_neg hkd]
      exact M.same k hk
    · by_cases hji : j = i
      · subst hji
        rw [hdi] at hD ⊢
        have hds : d < a'.tmps.size := by rw [M.size]; exact hfit d hdm
        simpa [Act.put, hds] using hD
      · have hne : d ≠ dstOf ops j := fun e => hji (dstAll_inj hnd hj hlt (by rw [hdi, e]))
        have hold : listed.getD j false = true := by rwa [getD_set_ne false (Ne.symm hji)] at hjl
        have := stable _ _ _ _ (M.known j hj hold) hb2
        simpa [Act.put, Array.getElem?_setIfInBounds, hne] using this

theorem wp_region_all {P : Program} {id : Nat} {ops : Array Oper} {Q : Exit → Act → World → Prop} (dsts : List Nat) (T : Nat → Known) {a : Act} {w : World} (hm : P.follows .mixedOrders = true)
    (hB : (openAll ops && edgesBind ops && decide (dstsAll ops = dsts)) = true)
    (hfit : (dsts.all fun d => decide (d < a.tmps.size)) = true)
    (steps : StepsOk P dsts T a w ops.toList dsts)
    (last : ∀ f w1, Below w.heap.size w w1 → (∀ d ∈ dsts, (T d).p (f d) w1) → wpList P ops Q [] (puts a f dsts) w1) : (Code.region id ops true).wp P Q a w := by
  simp only [Bool.and_eq_true, decide_eq_true_eq] at hB
  obtain ⟨⟨hB, hbind⟩, rfl⟩ := hB
  have hB' := hB
  simp only [openAll, Bool.and_eq_true] at hB'
  have hform := hB'.1
  rw [List.all_eq_true] at hform
  refine wp_region_any hm (wpAny_all (D := fun d v w => (T d).p v w) (w := { w with drawn := w.drawn + 1 }) hB (fun d hd => by simpa using List.all_eq_true.1 hfit d hd) (fun d v w1 w2 h hb => (T d).st v w1 w2 h hb)
    (fun i o ho ev w1 hb hev hdeps => ?_) (fun f w1 hb h => last f w1 ⟨hb.os, hb.tape, hb.output, hb.size, hb.block⟩ h) _ _ _ _ (by simp) (by simp [todo]) ⟨rfl, rfl, fun _ _ => rfl, Below.refl _ _, fun i hi h => ?_⟩)
  · have hlt : i < ops.size := (Array.getElem?_eq_some_iff.1 ho).1
    have h1 := stepsOk_at steps i (o := o) (d := dstOf ops i) (by simpa using ho) (by simp [dstsAll, hlt])
    refine h1 ev w1 ⟨hb.os, hb.tape, hb.output, hb.size, hb.block⟩ hev (depsOk_of fun e he => ?_)
    have hf := hform i (List.mem_range.2 hlt)
    rw [ho] at hf
    simp only [Bool.and_eq_true] at hf
    have hon : e.on < i := by simpa using Array.all_eq_true_iff_forall_mem.1 hf.1.2 e (by simpa using he)
    have hbd : Region.binds .any e = true := by
      have h2 := Array.all_eq_true_iff_forall_mem.1 hbind o (Array.mem_of_getElem? ho)
      exact Array.all_eq_true_iff_forall_mem.1 h2 e (by simpa using he)
    have hg : (dstsAll ops).getD e.on 0 = dstOf ops e.on := by simp [dstsAll, List.getD, show e.on < ops.size by omega]
    rw [hg]
    exact hdeps e he hbd
  · have h0 : (Array.replicate ops.size false).getD i false = false := by simp [show i < ops.size by omega]
    rw [h0] at h; cases h
end Go.Proofs.YtegaahcelogmlaaGreatDoor

namespace Go.Proofs.YtegaahcelogmlaaGreatDoor
open Go.RowKit

/-- An error of errors.New at an address. -/
def errV (p : Addr) : Value := .iface 158 (.pointer (some p))
/-- The errors' variables, in the order in which they are asked. -/
def gs : List Nat := [7, 8, 9, 3, 0, 1, 2, 10, 11, 12, 6, 13, 14, 15, 16, 17, 18, 19, 20]

/-- Some of the nineteen errors, as the program lays them: each its own pointer. -/
structure SentsOn (S : Nat → Prop) (w : World) (p : Nat → Addr) : Prop where
  cell : ∀ j, S j → w.cell? ⟨gs.getD j 0, 0, none⟩ = some (errV (p j))
  blk : ∀ j, S j → (p j).block < w.heap.size ∧ ∃ c t, w.heap[(p j).block]? = some (.cells c t (0, 0))
  ne : ∀ i j, S i → S j → i ≠ j → p i ≠ p j
/-- All of them. -/
abbrev Sents (w : World) (p : Nat → Addr) : Prop := SentsOn (fun j => j < 19) w p
/-- The first five: those that readers and batches tell. -/
abbrev Sents5 (w : World) (p : Nat → Addr) : Prop := SentsOn (fun j => j < 5) w p
/-- Those that a batch's Valid tells. -/
abbrev Sents2 (w : World) (p : Nat → Addr) : Prop := SentsOn (fun j => j = 3 ∨ j = 4) w p
theorem SentsOn.mono {S T : Nat → Prop} {w : World} {p : Nat → Addr} (h : SentsOn S w p) (hT : ∀ j, T j → S j) : SentsOn T w p :=
  ⟨fun j hj => h.cell j (hT j hj), fun j hj => h.blk j (hT j hj), fun i j hi hj => h.ne i j (hT i hi) (hT j hj)⟩
/-- Those that a reader of numbers tells, and those that a sealed text's Open tells. -/
abbrev SentsV (w : World) (p : Nat → Addr) : Prop := SentsOn (fun j => j = 0 ∨ j = 2 ∨ j = 4) w p
abbrev SentsO (w : World) (p : Nat → Addr) : Prop := SentsOn (fun j => j < 2) w p
instance sents5_v (w : World) (p : Nat → Addr) : Coe (SentsOn (fun j => j < 5) w p) (SentsOn (fun j => j = 0 ∨ j = 2 ∨ j = 4) w p) := ⟨fun h => h.mono fun j hj => by omega⟩
instance sents_o (w : World) (p : Nat → Addr) : Coe (SentsOn (fun j => j < 19) w p) (SentsOn (fun j => j < 2) w p) := ⟨fun h => h.mono fun j hj => by omega⟩
theorem SentsOn.five {w : World} {p : Nat → Addr} (h : Sents w p) : Sents5 w p := h.mono fun j hj => by omega
theorem SentsOn.two {w : World} {p : Nat → Addr} (h : Sents5 w p) : Sents2 w p := h.mono fun j hj => by omega

theorem SentsOn.size {S : Nat → Prop} {w : World} {p : Nat → Addr} (h : SentsOn S w p) (j : Nat) (hj : S j) : gs.getD j 0 < w.heap.size := by
  have hc := h.cell j hj
  generalize gs.getD j 0 = g at *
  rcases Nat.lt_or_ge g w.heap.size with h | h
  · exact h
  · simp [World.cell?, Array.getElem?_eq_none h] at hc
theorem SentsOn.below {S : Nat → Prop} {w w' : World} {p : Nat → Addr} (h : SentsOn S w p) (hb : Below w.heap.size w w') : SentsOn S w' p :=
  ⟨fun j hj => (hb.cell (p := ⟨gs.getD j 0, 0, none⟩) (h.size j hj)).trans (h.cell j hj),
   fun j hj => by
    obtain ⟨h1, c, t, h2⟩ := h.blk j hj
    exact ⟨Nat.lt_of_lt_of_le h1 hb.size, c, t, (hb.block _ h1).trans h2⟩, h.ne⟩

theorem es_pointee : Tryz.prog.underlying 158 = some (.pointer 174) := by kernel_rfl
theorem es_facts : ∃ ms i j, Tryz.prog.underlying 30 = some (.interface ms) ∧ Tryz.prog.info? 158 = some i ∧ i.comparable = true ∧ Tryz.prog.info? 174 = some j ∧ j.size ≠ 0 := by
  have h1 : (match Tryz.prog.underlying 30 with | some (.interface _) => true | _ => false) = true := by kernel_rfl
  have h2 : (Tryz.prog.info? 158).map (·.comparable) = some true := by kernel_rfl
  have h3 : (Tryz.prog.info? 174).map (·.size) = some 1 := by kernel_rfl
  obtain ⟨i, h4, h5⟩ := Option.map_eq_some_iff.1 h2
  obtain ⟨j, h6, h7⟩ := Option.map_eq_some_iff.1 h3
  cases hu : Tryz.prog.underlying 30 with
  | none => rw [hu] at h1; cases h1
  | some u =>
    rw [hu] at h1
    cases u with
    | interface ms => exact ⟨ms, i, j, rfl, h4, h5, h6, by omega⟩
    | _ => cases h1
theorem eql_same (a : Addr) (w : World) : (binOp .eql 30 (errV a) (errV a)).run Tryz.prog w = .ok (.bool true) w := by
  obtain ⟨ms, i, j, h1, h2, h3, h4, h5⟩ := es_facts
  exact run_eql_iface_ptr_same w a h1 es_pointee h2 h3 h4
theorem eql_other (a b : Addr) (w : World) (hne : a ≠ b) (ha : ∃ c t, w.heap[a.block]? = some (.cells c t (0, 0))) (hb : ∃ c t, w.heap[b.block]? = some (.cells c t (0, 0))) : (binOp .eql 30 (errV a) (errV b)).run Tryz.prog w = .ok (.bool false) w := by
  obtain ⟨ms, i, j, h1, h2, h3, h4, h5⟩ := es_facts
  obtain ⟨c, t, hc⟩ := ha
  obtain ⟨c', t', hc'⟩ := hb
  exact run_eql_iface_ptr_other w h1 es_pointee h2 h3 h4 h5 hne hc hc'
theorem eql_nil (a : Addr) (w : World) : (binOp .eql 30 (errV a) .nilIface).run Tryz.prog w = .ok (.bool false) w := by
  obtain ⟨ms, i, j, h1, h2, h3, h4, h5⟩ := es_facts
  have h : ∀ d : Nat, (Op.equalIn (d + 1) 30 (errV a) .nilIface).run Tryz.prog w = .ok false w := fun d => by simp [Op.equalIn, run_underlying h1, errV]
  simp only [binOp]
  simp [Op.equal, Op.maxDepth, h 9999]

theorem alike_eq (a : Addr) (w : World) :
    Calls Tryz.prog 66 #[errV a, errV a] w fun e w' => e = .returned (.bool true) ∧ w = w' := by
  have k1 := eql_nil a
  have k2 := eql_same a
  unfold errV at *
  go_enter Tryz.func66, Tryz.ntmps66
  go_wp2_with fail
  go_ret
  exact ⟨rfl, rfl⟩
theorem alike_ne (a b : Addr) (w : World) (hne : a ≠ b) (ha : ∃ c t, w.heap[a.block]? = some (.cells c t (0, 0))) (hb : ∃ c t, w.heap[b.block]? = some (.cells c t (0, 0))) :
    Calls Tryz.prog 66 #[errV a, errV b] w fun e w' => e = .returned (.bool false) ∧ w = w' := by
  have k1 := eql_nil a
  have k2 := eql_nil b
  have k3 := eql_other a b w hne ha hb
  clear hne ha hb
  unfold errV at *
  go_enter Tryz.func66, Tryz.ntmps66
  go_wp2_with fail
  go_ret
  exact ⟨rfl, rfl⟩
def errCells (p : Nat → Addr) : Array Value := #[errV (p 0), errV (p 1), errV (p 2), errV (p 3), errV (p 4), errV (p 5), errV (p 6), errV (p 7), errV (p 8), errV (p 9), errV (p 10), errV (p 11), errV (p 12), errV (p 13), errV (p 14), errV (p 15), errV (p 16), errV (p 17), errV (p 18)]
theorem errCells_at (p : Nat → Addr) (j : Nat) (hj : j < 19) : (errCells p)[j]? = some (errV (p j)) := by
  match j, hj with
  | 0, _ => rfl
  | 1, _ => rfl
  | 2, _ => rfl
  | 3, _ => rfl
  | 4, _ => rfl
  | 5, _ => rfl
  | 6, _ => rfl
  | 7, _ => rfl
  | 8, _ => rfl
  | 9, _ => rfl
  | 10, _ => rfl
  | 11, _ => rfl
  | 12, _ => rfl
  | 13, _ => rfl
  | 14, _ => rfl
  | 15, _ => rfl
  | 16, _ => rfl
  | 17, _ => rfl
  | 18, _ => rfl
  | j + 19, h => omega

set_option maxHeartbeats 1000000 in
theorem sentinels_any (w : World) (p : Nat → Addr) (h : Sents w p) :
    Calls Tryz.prog 65 #[] w fun e w' => e = .returned (.slice (some ⟨w.heap.size, 0, none⟩) 19 19) ∧ w.alloc (.cells (errCells p) 30) = w' := by
  have c0 : w.cell? ⟨7, 0, none⟩ = some (errV (p 0)) := h.cell 0 (by omega)
  have c1 : w.cell? ⟨8, 0, none⟩ = some (errV (p 1)) := h.cell 1 (by omega)
  have c2 : w.cell? ⟨9, 0, none⟩ = some (errV (p 2)) := h.cell 2 (by omega)
  have c3 : w.cell? ⟨3, 0, none⟩ = some (errV (p 3)) := h.cell 3 (by omega)
  have c4 : w.cell? ⟨0, 0, none⟩ = some (errV (p 4)) := h.cell 4 (by omega)
  have c5 : w.cell? ⟨1, 0, none⟩ = some (errV (p 5)) := h.cell 5 (by omega)
  have c6 : w.cell? ⟨2, 0, none⟩ = some (errV (p 6)) := h.cell 6 (by omega)
  have c7 : w.cell? ⟨10, 0, none⟩ = some (errV (p 7)) := h.cell 7 (by omega)
  have c8 : w.cell? ⟨11, 0, none⟩ = some (errV (p 8)) := h.cell 8 (by omega)
  have c9 : w.cell? ⟨12, 0, none⟩ = some (errV (p 9)) := h.cell 9 (by omega)
  have c10 : w.cell? ⟨6, 0, none⟩ = some (errV (p 10)) := h.cell 10 (by omega)
  have c11 : w.cell? ⟨13, 0, none⟩ = some (errV (p 11)) := h.cell 11 (by omega)
  have c12 : w.cell? ⟨14, 0, none⟩ = some (errV (p 12)) := h.cell 12 (by omega)
  have c13 : w.cell? ⟨15, 0, none⟩ = some (errV (p 13)) := h.cell 13 (by omega)
  have c14 : w.cell? ⟨16, 0, none⟩ = some (errV (p 14)) := h.cell 14 (by omega)
  have c15 : w.cell? ⟨17, 0, none⟩ = some (errV (p 15)) := h.cell 15 (by omega)
  have c16 : w.cell? ⟨18, 0, none⟩ = some (errV (p 16)) := h.cell 16 (by omega)
  have c17 : w.cell? ⟨19, 0, none⟩ = some (errV (p 17)) := h.cell 17 (by omega)
  have c18 : w.cell? ⟨20, 0, none⟩ = some (errV (p 18)) := h.cell 18 (by omega)
  unfold errCells
  clear h
  unfold errV at *
  generalize p 0 = q0 at *
  generalize p 1 = q1 at *
  generalize p 2 = q2 at *
  generalize p 3 = q3 at *
  generalize p 4 = q4 at *
  generalize p 5 = q5 at *
  generalize p 6 = q6 at *
  generalize p 7 = q7 at *
  generalize p 8 = q8 at *
  generalize p 9 = q9 at *
  generalize p 10 = q10 at *
  generalize p 11 = q11 at *
  generalize p 12 = q12 at *
  generalize p 13 = q13 at *
  generalize p 14 = q14 at *
  generalize p 15 = q15 at *
  generalize p 16 = q16 at *
  generalize p 17 = q17 at *
  generalize p 18 = q18 at *
  go_enter Tryz.func65, Tryz.ntmps65
  go_wp2_with fail
  go_ret
  exact ⟨rfl, rfl⟩

theorem sentinel_any (w : World) (p : Nat → Addr) (h : Sents w p) (k : Nat) (hk : k < 19) :
    Calls Tryz.prog 47 #[errV (p k)] w fun e w' => e = .returned (.int .i64 ((101 + k : Nat) : Int)) ∧ Below w.heap.size w w' := by
  have HS := hideE h
  have hcell : ∀ j, j < 19 → (w.alloc (.cells (errCells p) 30)).cell? ⟨w.heap.size, j, none⟩ = some (errV (p j)) := fun j hj => by
    rw [World.cell?_alloc_mark]; exact errCells_at p j hj
  have hblk : ∀ j, j < 19 → ∃ c t, (w.alloc (.cells (errCells p) 30)).heap[(p j).block]? = some (.cells c t (0, 0)) := fun j hj => by
    obtain ⟨h1, c, t, h2⟩ := h.blk j hj
    exact ⟨c, t, by rw [Below.heap_alloc _ _ _ h1]; exact h2⟩
  have HC := hideE hcell
  have HB := hideE hblk
  have hbl : Below w.heap.size w (w.alloc (.cells (errCells p) 30)) := balloc (Below.refl _ _) _
  have HBL := hideE hbl
  have HSE := hideE (sentinels_any w p h)
  clear h hcell hblk hbl
  generalize hw1 : w.alloc (.cells (errCells p) 30) = w1 at *
  clear hw1
  go_enter Tryz.func47, Tryz.ntmps47
  go_wp2_with (go_at_call 65; refine HSE.out.mono ?_; rintro e w' ⟨rfl, rfl⟩)
  go_loopw [4] (fun i wr => ∃ j : Nat, j ≤ k ∧ i = .int .i64 j ∧ w1 = wr) (fun i _ => 19 - (intOf i).toNat)
  case atStart => exact ⟨0, Nat.zero_le _, rfl, rfl⟩
  case round =>
    obtain ⟨j, hj, rfl, rfl⟩ := hrel
    have hc := HC.out j (by omega)
    by_cases hjk : j = k
    · subst hjk
      have HA := hideE (alike_eq (p j) w1)
      unfold errV at *
      go_wp2_with (go_at_call 66; refine HA.out.mono ?_; rintro e w' ⟨rfl, rfl⟩)
      go_ret
      exact ⟨by simp, HBL.out⟩
    · have HA := hideE (alike_ne (p k) (p j) w1 (HS.out.ne k j hk (by omega) (fun e => hjk e.symm)) (HB.out k hk) (HB.out j (by omega)))
      unfold errV at *
      have hlt : j < k := by omega
      clear hjk
      go_wp2_with (go_at_call 66; refine HA.out.mono ?_; rintro e w' ⟨rfl, rfl⟩)
      go_roundw
      case rel => exact ⟨j + 1, by omega, by go_num, trivial⟩
      case measure => simp [intOf]; omega

end Go.Proofs.YtegaahcelogmlaaGreatDoor

namespace Go.Proofs.YtegaahcelogmlaaGreatDoor
open Go.RowKit

def byteV (x : UInt8) : Value := .int .u8 (B x)
def cells (l : List UInt8) : List Value := l.map byteV
theorem cells_len (l : List UInt8) : (cells l).length = l.length := by simp [cells]
theorem cells_one (l : List UInt8) : ∀ u ∈ cells l, u.oneCell' = true := by
  intro u hu
  obtain ⟨x, _, rfl⟩ := List.mem_map.1 hu
  rfl
theorem cells_inj {l m : List UInt8} (h : cells l = cells m) : l = m := by
  refine (List.map_inj_right (f := byteV) ?_).1 h
  intro x y e
  unfold byteV at e
  injection e with _ e
  exact B_inj e
theorem byte_info : (Tryz.prog.info? 5).map (fun i => (i.zero, i.size, i.bytes)) = some (some (.int .u8 0), 1, 1) := by kernel_rfl
theorem byte_size : (Tryz.prog.info? 5).map (·.size) = some 1 := by kernel_rfl

/-- A slice value that the call owns: its bytes. -/
def Own (w : World) (base : Nat) (v : Value) (l : List UInt8) : Prop := w.ownsRow base 5 1 v l.length (cells l)

theorem Own.nil (w : World) (base : Nat) : Own w base (.slice none 0 0) [] := World.ownsRow_nil w base _ 1
theorem Own.alloc {w : World} {base : Nat} {v : Value} {l : List UInt8} (h : Own w base v l) (o : Obj) : Own (w.alloc o) base v l := World.ownsRow.alloc h o
theorem Own.drewN {w : World} {base : Nat} {v : Value} {l : List UInt8} (h : Own w base v l) (n : Nat) : Own (w.drewN n) base v l := h
theorem Own.lt {w : World} {base : Nat} {v : Value} {l : List UInt8} (h : Own w base v l) : ∀ k, v.ownBlock = some k → base ≤ k ∧ k < w.heap.size := World.ownsRow.lt h
/-- It stays where all below a block beyond it stays. -/
theorem Own.below {w w' : World} {base C : Nat} {v : Value} {l : List UInt8} (h : Own w base v l) (hb : Below C w w') (hC : w.heap.size ≤ C) : Own w' base v l := by
  obtain ⟨h1, h2⟩ := h
  refine ⟨h1, ?_⟩
  rcases h2 with h2 | ⟨g, cap, cur, hv, hg, hh, r⟩
  · exact .inl h2
  · have hlt : g < w.heap.size := by
      rcases Nat.lt_or_ge g w.heap.size with h | h
      · exact h
      · rw [Array.getElem?_eq_none h] at hh; cases hh
    exact .inr ⟨g, cap, cur, hv, hg, (hb.block g (by omega)).trans hh, r⟩
theorem Own.mono {w : World} {base base' : Nat} {v : Value} {l : List UInt8} (h : Own w base v l) (hb : base' ≤ base) : Own w base' v l := by
  obtain ⟨h1, h2⟩ := h
  refine ⟨h1, ?_⟩
  rcases h2 with h2 | ⟨g, cap, cur, hv, hg, r⟩
  · exact .inl h2
  · exact .inr ⟨g, cap, cur, hv, by omega, r⟩
/-- What is owned is a slice that reads as its bytes. -/
theorem Own.reads {w : World} {base : Nat} {v : Value} {l : List UInt8} (h : Own w base v l) : ∃ A c, v = .slice A l.length c ∧ Reads w A l ∧ (A = none → l = [] ∧ c = 0) := by
  obtain ⟨_, h2⟩ := h
  rcases h2 with ⟨rfl, h0⟩ | ⟨g, cap, cur, rfl, hg, hh, hn, hm, hs, ht⟩
  · obtain rfl := List.eq_nil_of_length_eq_zero h0
    exact ⟨none, 0, rfl, .inl rfl, fun _ => ⟨rfl, rfl⟩⟩
  · refine ⟨_, _, rfl, .inr ⟨g, 0, rfl, ?_, fun k hk => ?_⟩, fun e => by cases e⟩
    · rcases Nat.lt_or_ge g w.heap.size with h | h
      · exact h
      · rw [Array.getElem?_eq_none h] at hh; cases hh
    · have e : cur.toList[k]? = some (byteV l[k]) := by
        have e2 : (cur.toList.take (l.length * 1))[k]? = some (byteV l[k]) := by rw [ht]; simp [cells, hk]
        rw [List.getElem?_take] at e2
        rwa [if_pos (by omega)] at e2
      have e3 : cur[k]? = some (byteV l[k]) := by simpa using e
      simp only [World.cell?, hh, Nat.zero_add]
      rw [e3]
      simp [byteV, List.getD, hk]

theorem Reads.below {w w' : World} {C : Nat} {A : Option Addr} {l : List UInt8} (h : Reads w A l) (hb : Below C w w') (hC : w.heap.size ≤ C) : Reads w' A l := by
  rcases h with h | ⟨b, off, e, hlt, hc⟩
  · exact .inl h
  · exact .inr ⟨b, off, e, by have := hb.size; omega, fun k hk => (hb.cell (p := ⟨b, off + k, none⟩) (by show b < C; omega)).trans (hc k hk)⟩
/-- The new cells of a slice that reads as bytes. -/
theorem Reads.news {w : World} {ad : Addr} {l : List UInt8} (h : Reads w (some ad) l) : ∀ j u, (cells l)[j]? = some u → w.cell? (ad.add j) = some u := by
  intro j u hu
  rcases h with rfl | ⟨b, off, e, hb, hc⟩
  · simp [cells] at hu
  · obtain rfl := Option.some.inj e
    have hj : j < l.length := by
      have := (List.getElem?_eq_some_iff.1 hu).1
      rwa [cells_len] at this
    rw [show (⟨b, off, none⟩ : Addr).add j = ⟨b, off + j, none⟩ from by rw [Addr.add_lit]]
    rw [hc j hj]
    simpa [cells, hj, byteV, List.getD] using hu

/-- A new block whose cells are bytes reads as them. -/
theorem Reads.made (w : World) (l : List UInt8) (cs : Array Value) (e : TypeId) (fr : Nat × Nat) (g : Nat) (hg : g = w.heap.size) (hc : (cells l).toArray = cs) : Reads (w.alloc (.cells cs e fr)) (some ⟨g, 0, none⟩) l := by
  subst hg hc
  exact Reads.new w l e fr
section
variable {w : World} {ops : Array Oper} {rest : List Oper} {o : Oper} {a : Act} {Q : Exit → Act → World → Prop}

/-- append(s, x...), s the call's own, x whatever reads as bytes. -/
theorem wpList_app (hgd : o.guard = none) (s x : Operand) (ho : o.op = .call { callee := .builtin .append, args := #[s, x], argTypes := #[22, 22] })
    (base : Nat) (v : Value) (l m : List UInt8) (hs : a.eval s = v) (hown : Own w base v l) (A : Option Addr) (n c : Nat) (hx : a.eval x = .slice A n c) (hn : m.length = n) (hr : Reads w A m)
    (hlen : l.length + n ≤ 1073741824) (hbase : base ≤ w.heap.size)
    (h : ∀ v' w', Own w' base v' (l ++ m) → w.grownBy w' v.ownBlock → (v'.ownBlock = v.ownBlock ∨ v'.ownBlock = some w.heap.size) → wpList Tryz.prog ops Q rest (a.put o.dst v') w') : wpList Tryz.prog ops Q (o :: rest) a w := by
  subst hn
  obtain ⟨i, hi, hz, hs1, hby⟩ := info_parts byte_info
  refine wpList_plain hgd fun K hK => ?_
  have key : ∃ v' w', (Builtin.append_ #[22, 22] o.type #[v, .slice A m.length c]).run Tryz.prog w = .ok v' w' ∧ Own w' base v' (l ++ m) ∧ w.grownBy w' v.ownBlock ∧ (v'.ownBlock = v.ownBlock ∨ v'.ownBlock = some w.heap.size) := by
    cases A with
    | none =>
      have h0 : m = [] := by
        rcases hr with h | ⟨_, _, h, _⟩
        · exact h
        · cases h
      subst h0
      refine ⟨v, w, ?_, by simpa using hown, World.grownBy.refl w _, .inl rfl⟩
      have u := Tryz.underlying22
      rcases hown.2 with ⟨rfl, _⟩ | ⟨g, cap, cur, rfl, _, _, hnc, _⟩
      · simp [Builtin.append_, run_underlying u, sizeOf, typeInfo, hi, Builtin.lenOf, Builtin.firstCells]
      · simp [Builtin.append_, run_underlying u, sizeOf, typeInfo, hi, Builtin.lenOf, Builtin.firstCells, hnc, storeCells]
    | some ad =>
      obtain ⟨v', w', hrun, h2, h3, _, h5⟩ := run_append_own_at (P := Tryz.prog) w base 22 o.type 5 i _ 1 1 Tryz.underlying22 hi hz hs1 hby rfl (by omega) v l.length (cells l) hown ad m.length c (cells m) (by rw [cells_len]; omega) hr.news (cells_one m)
        (by simp only [maxLen]; omega) (by omega) hbase
      refine ⟨v', w', hrun, ?_, h3, h5⟩
      unfold Own
      rw [List.length_append, show cells (l ++ m) = cells l ++ cells m from by simp [cells]]
      exact h2
  obtain ⟨v', w', hrun, h2, h3, h4⟩ := key
  unfold Oper.wp execOp
  simp only [ho, resolve, invoke, builtin, Sem.run_bind, Sem.run_pure, Result.andThen_ok, List.map_toArray, List.map_cons, List.map_nil, hs, hx, hrun]
  exact hK _ _ (h v' w' h2 h3 h4)

/-- make([]byte, n, c). -/
theorem wpList_mk (hgd : o.guard = none) (s x : Operand) (ho : o.op = Op.makeSlice 22 s x) (n c : Nat) (N C : Int) (hs : a.eval s = .int .i64 N) (hx : a.eval x = .int .i64 C) (hN : N = n) (hC : C = c) (hnc : n ≤ c) (hc : c ≤ 1073741824)
    (h : ∀ w', Own w' w.heap.size (.slice (some ⟨w.heap.size, 0, none⟩) n c) (List.replicate n 0) → Below w.heap.size w w' → w'.heap.size = w.heap.size + 1 → wpList Tryz.prog ops Q rest (a.put o.dst (.slice (some ⟨w.heap.size, 0, none⟩) n c)) w') : wpList Tryz.prog ops Q (o :: rest) a w := by
  obtain ⟨i, hi, hz, hs1, hby⟩ := info_parts byte_info
  refine wpList_plain hgd fun K hK => ?_
  have hrun := run_make (P := Tryz.prog) w 22 5 i _ Tryz.underlying22 hi hz .i64 .i64 n c (by omega) (by omega) (by rw [hby]; omega) (by omega)
  unfold Oper.wp execOp
  subst hN hC
  simp only [ho, Sem.run_bind, Sem.run_pure, Result.andThen_ok, hs, hx, hrun, Int.toNat_natCast]
  refine hK _ _ (h _ ?_ ((Below.refl _ _).alloc (Nat.le_refl _) _) (by simp))
  refine ⟨by simp [cells_len], .inr ⟨w.heap.size, c, _, by simp, Nat.le_refl _, heap_alloc_new _ _, by simpa using hnc, by simp only [maxLen]; omega, by simp [size_madeCells, hs1], ?_⟩⟩
  apply List.ext_getElem
  · simp [madeCells, cells, hs1]; omega
  · intro j h1 h2
    simp [madeCells, cells, hs1, Value.cells, byteV, B, Nat.mod_one]

/-- copy(d, s), d the call's own, s whatever reads as bytes. -/
theorem wpList_cp (hgd : o.guard = none) (d s : Operand) (ho : o.op = .call { callee := .builtin .copy, args := #[d, s], argTypes := #[22, 22] })
    (base : Nat) (l m : List UInt8) (D : Option Addr) (dn dc : Nat) (hd : a.eval d = .slice D dn dc) (hown : Own w base (.slice D dn dc) l) (A : Option Addr) (n c : Nat) (hx : a.eval s = .slice A n c) (hn : m.length = n) (hr : Reads w A m)
    (h : ∀ w', Own w' base (.slice D dn dc) (m.take l.length ++ l.drop m.length) → w.grownBy w' (Value.slice D dn dc).ownBlock → w'.heap.size = w.heap.size → wpList Tryz.prog ops Q rest (a.put o.dst (goInt (Nat.min m.length l.length))) w') : wpList Tryz.prog ops Q (o :: rest) a w := by
  subst hn
  have hdn : dn = l.length := by
    rcases hown.2 with ⟨e, h0⟩ | ⟨_, _, _, e, _⟩
    · injection e with _ e _; omega
    · injection e
  subst hdn
  by_cases h0 : Nat.min m.length l.length = 0
  · refine wpList_copy_nothing hgd d s _ _ ho _ Tryz.underlying22 byte_size D A _ dc _ c hd hx h0 ?_
    have e : m.take l.length ++ l.drop m.length = l := by
      rcases Nat.min_eq_zero_iff.1 h0 with e | e
      · obtain rfl := List.eq_nil_of_length_eq_zero e; simp
      · obtain rfl := List.eq_nil_of_length_eq_zero e; simp
    rw [h0] at h
    exact h w (by rw [e]; exact hown) (World.grownBy.refl _ _) rfl
  · have hpos : 0 < m.length ∧ 0 < l.length := by
      have := Nat.min_eq_zero_iff (m := m.length) (n := l.length)
      have h1 : ¬ (m.length = 0 ∨ l.length = 0) := fun h => h0 (this.2 h)
      omega
    rcases hown.2 with ⟨_, e⟩ | ⟨g, cap, cur, hv, hg, hh, hn, hm, hs, ht⟩
    · omega
    injection hv with hD _ hcap
    subst hD hcap
    cases A with
    | none =>
      rcases hr with h | ⟨_, _, h, _⟩
      · subst h; simp at hpos
      · cases h
    | some ad =>
    have hmin : (cells (m.take l.length)).length = Nat.min m.length l.length := by rw [cells_len, List.length_take, Nat.min_comm]
    have hle : Nat.min m.length l.length ≤ l.length := Nat.min_le_right _ _
    have hnews := hr.news
    have hmm : Nat.min m.length l.length = min m.length l.length := rfl
    refine wpList_copy_own hgd d s _ _ ho _ Tryz.underlying22 byte_size g 0 l.length dc ad m.length c hd hx cur _ hh (cells (m.take l.length)) hmin ?_ (by rw [hmin, Nat.zero_add]; omega) (cells_one _) ?_
    · intro j u hu
      have hj : j < (cells (m.take l.length)).length := (List.getElem?_eq_some_iff.1 hu).1
      apply hnews j u
      rw [← hu]
      simp only [cells, List.map_take]
      rw [List.getElem?_take, if_pos (by rw [hmin] at hj; omega)]
    · rw [hmin]
      refine h _ ?_ ⟨rfl, rfl, rfl, by simp [World.setRow], fun k hk hne => setRow_other w g k _ (by rintro rfl; exact hne rfl)⟩ (by simp [World.setRow])
      have hlen : (m.take l.length ++ l.drop m.length).length = l.length := by simp; omega
      refine ⟨by rw [cells_len]; omega, .inr ⟨g, dc, _, by rw [hlen], hg, setRow_heap w g _ _ _ _ hh, by rw [hlen]; exact hn, hm, ?_, ?_⟩⟩
      · have hsz : cur.toList.length = dc := by simpa using hs
        simp [cells]; simp at hsz; omega
      · have hcl : cur.toList.take l.length = cells l := by simpa using ht
        have hl2 : l.length ≤ cur.toList.length := by simp; omega
        rw [hlen]
        apply List.ext_getElem?
        intro j
        rw [Nat.mul_one, List.getElem?_take]
        by_cases hj : j < l.length
        · rw [if_pos hj]
          simp only [Nat.zero_add, List.take_zero, List.nil_append]
          by_cases hj2 : j < Nat.min m.length l.length
          · rw [List.getElem?_append_left (by rw [hmin]; exact hj2)]
            simp only [cells, List.map_append]
            rw [List.getElem?_append_left (by simp; have : Nat.min m.length l.length = min m.length l.length := rfl; omega)]
          · have e1 : Nat.min m.length l.length = m.length := by
              rcases Nat.le_total m.length l.length with h | h
              · exact Nat.min_eq_left h
              · have : Nat.min m.length l.length = l.length := Nat.min_eq_right h
                omega
            rw [e1] at hj2
            rw [List.getElem?_append_right (by rw [hmin, e1]; omega), hmin, e1]
            simp only [cells, List.map_append]
            rw [List.getElem?_append_right (by simp; omega)]
            simp only [List.length_map, List.length_take, List.map_drop]
            rw [List.getElem?_drop, List.getElem?_drop]
            have e2 : cur.toList[m.length + (j - m.length)]? = (cells l)[m.length + (j - m.length)]? := by
              rw [← hcl, List.getElem?_take, if_pos (by omega)]
            rw [e2]
            have e3 : min l.length m.length = m.length := by rw [Nat.min_comm]; exact e1
            rw [e3]
            rfl
        · rw [if_neg hj, List.getElem?_eq_none]
          rw [cells_len]; omega
end
end Go.Proofs.YtegaahcelogmlaaGreatDoor

namespace Go.Proofs.YtegaahcelogmlaaGreatDoor
open Go.RowKit

theorem Reads.sub {w : World} {b off : Nat} {l : List UInt8} (h : Reads w (some ⟨b, off, none⟩) l) (i m : Nat) : Reads w (some ⟨b, off + i, none⟩) ((l.drop i).take m) := by
  rcases h with rfl | ⟨b', off', e, hb, hc⟩
  · exact .inl (by simp)
  · injection e with e
    injection e with e1 e2
    subst e1 e2
    refine .inr ⟨_, _, rfl, hb, fun k hk => ?_⟩
    have hk' : k < m ∧ i + k < l.length := by
      rw [List.length_take, List.length_drop] at hk; omega
    rw [Nat.add_assoc, hc (i + k) hk'.2]
    congr 2
    simp [List.getD, hk'.1]
/-- Where a slice cut ahead at q begins. -/
def cutA (A : Option Addr) (cap q : Nat) : Option Addr := if cap = q then A else A.map (·.add q)
theorem byte_elem : Tryz.prog.underlying 22 = some (.slice (Tryz.prog.elem 22)) := by kernel_rfl
theorem byte_sizeOf (W : World) : (sizeOf (Tryz.prog.elem 22)).run Tryz.prog W = .ok 1 W := by
  have h : Tryz.prog.elem 22 = 5 := by kernel_rfl
  obtain ⟨i, hi, hz, hs1, hby⟩ := info_parts byte_info
  rw [h]; simp [sizeOf, typeInfo, hi, hs1]
theorem run_cut_l (W : World) (A : Option Addr) (n cap q : Nat) (h : q ≤ n) :
    (Instr.sliceAt 22 (.slice A n cap) (some (.int .i64 (q : Int))) none none).run Tryz.prog W = .ok (.slice (cutA A cap q) (n - q) (cap - q)) W := by
  rw [run_sliceAt_slice W _ _ _ _ _ byte_elem, run_slice_l W _ A n cap byte_elem .i64 (q : Int) (by omega) (by omega), byte_sizeOf]
  simp [Result.andThen, sliced, cutA]
theorem run_cut_h (W : World) (A : Option Addr) (n cap q : Nat) (h : q ≤ cap) :
    (Instr.sliceAt 22 (.slice A n cap) none (some (.int .i64 (q : Int))) none).run Tryz.prog W = .ok (.slice A q cap) W := by
  rw [run_sliceAt_slice W _ _ _ _ _ byte_elem, run_slice_h W _ A n cap byte_elem .i64 (q : Int) (by omega) (by omega), byte_sizeOf]
  simp [Result.andThen, sliced]
  intro h0 
  cases A <;> simp [Addr.add]
theorem Reads.first {w : World} {A : Option Addr} {l : List UInt8} (h : Reads w A l) (q : Nat) : Reads w A (l.take q) := by
  rcases h with rfl | ⟨b, off, rfl, hb, hc⟩
  · exact .inl (by simp)
  · refine .inr ⟨_, _, rfl, hb, fun k hk => ?_⟩
    rw [List.length_take] at hk
    rw [hc k (by omega)]
    congr 2
    simp [List.getD, show k < q by omega]
theorem Reads.cut {w : World} {A : Option Addr} {l : List UInt8} (h : Reads w A l) (cap q : Nat) (hl : l.length ≤ cap) (hA : A = none → cap = 0) (hq : q ≤ l.length) : Reads w (cutA A cap q) (l.drop q) := by
  unfold cutA
  split
  · exact .inl (List.drop_eq_nil_of_le (by omega))
  · rcases A with _ | ⟨b, off, sp⟩
    · have := hA rfl; omega
    · rcases h with rfl | ⟨b', off', e, hb, hc⟩
      · exact .inl (by simp)
      · obtain ⟨rfl, rfl, rfl⟩ := by simpa using e
        have h2 := Reads.sub (w := w) (b := b) (off := off) (l := l) (.inr ⟨_, _, rfl, hb, hc⟩) q l.length
        rw [List.take_of_length_le (by simp)] at h2
        simpa [Addr.add_lit] using h2
theorem run_cut_lh (W : World) (A : Option Addr) (n cap lo hi : Nat) (h : lo ≤ hi) (h2 : hi ≤ cap) :
    (Instr.sliceAt 22 (.slice A n cap) (some (.int .i64 (lo : Int))) (some (.int .i64 (hi : Int))) none).run Tryz.prog W = .ok (.slice (cutA A cap lo) (hi - lo) (cap - lo)) W := by
  rw [run_sliceAt_slice W _ _ _ _ _ byte_elem, run_slice_lh W _ A n cap byte_elem .i64 .i64 (lo : Int) (hi : Int) (by omega) (by omega) (by omega), byte_sizeOf]
  simp [Result.andThen, sliced, cutA]
end Go.Proofs.YtegaahcelogmlaaGreatDoor

namespace Go.Proofs.YtegaahcelogmlaaGreatDoor
open Go.RowKit Go.ChangeShapes Go.WideShapes Go.ChangeAt

/-- What a walk is told of a slice of bytes that came in. -/
structure Arg (w : World) (A : Option Addr) (cap : Nat) (l : List UInt8) : Prop where
  le : l.length ≤ cap
  max : cap ≤ 9223372036854775807
  nil : A = none → cap = 0
  reads : Reads w A l

theorem arg_of {H : Type} {enc : TypeId × Value → H} {W : World} {base : Nat} {spare : Nat → Bool} {held : Bool} {a : Option Addr} {len cap : Nat} {d : DataW H} {p : List MemPlace}
    (h : DataW.Trod enc Tryz.prog W base spare held 22 (.slice a len cap) d p) : ∃ l, l.length = len ∧ Arg W a cap l := by
  obtain ⟨fuel, hf⟩ := h
  rcases open_ints Tryz.underlying22 Tryz.underlying5 cells_u8 hf with ⟨hcs, _⟩ | ⟨x, l, c, zs, hcs, _, hl, hm, hz, _, hcell, hwz⟩
  · simp [Value.cells] at hcs
    obtain ⟨rfl, rfl, rfl⟩ := hcs
    exact ⟨[], rfl, ⟨Nat.le_refl _, by omega, fun _ => rfl, .inl rfl⟩⟩
  · simp [Value.cells] at hcs
    obtain ⟨rfl, rfl, rfl⟩ := hcs
    have hzl : len ≤ zs.length := by split at hz <;> omega
    refine ⟨(zs.take len).map fun z => UInt8.ofNat z.toNat, by simp; omega, ⟨by simp; omega, by simpa [maxLen] using hm, fun e => (by cases e), ?_⟩⟩
    by_cases h0 : len = 0
    · subst h0; exact .inl (by simp)
    · obtain ⟨b, off, spot⟩ := x
      have hc := hcell 0 (by omega)
      have hspot : spot = none := by simpa [Addr.add] using World.cell?_spot hc
      subst hspot
      refine .inr ⟨b, off, rfl, ?_, fun k hk => ?_⟩
      · rcases Nat.lt_or_ge b W.heap.size with h | h
        · exact h
        · exfalso
          simp [World.cell?, Addr.add, Array.getElem?_eq_none h] at hc
      · have hk' : k < len := by simp at hk; omega
        have hck := hcell k (by omega)
        rw [Addr.add_lit] at hck
        rw [hck]
        congr 2
        have hmem : zs.getD k 0 ∈ zs := by
          simp only [List.getD, List.getElem?_eq_getElem (show k < zs.length by omega), Option.getD_some]
          exact List.getElem_mem _
        have hb := bounds_u8 (hwz _ hmem)
        have e : ((zs.take len).map fun z => UInt8.ofNat z.toNat).getD k 0 = UInt8.ofNat (zs.getD k 0).toNat := by
          simp [List.getD, hk', show k < zs.length by omega]
        rw [e]
        unfold B
        rw [UInt8.toNat_ofNat']
        omega

end Go.Proofs.YtegaahcelogmlaaGreatDoor

namespace Go.Proofs.YtegaahcelogmlaaGreatDoor
open Go.RowKit

theorem Own.arg {w : World} {base : Nat} {v : Value} {l : List UInt8} (h : Own w base v l) : ∃ A c, v = .slice A l.length c ∧ Arg w A c l := by
  obtain ⟨A, c, hv, hr, hn⟩ := h.reads
  refine ⟨A, c, hv, ?_⟩
  rcases h.2 with ⟨e, h0⟩ | ⟨g, cap, cur, e, hg, hh, hc, hm, hs, ht⟩
  · rw [hv] at e
    injection e with e1 e2 e3
    subst e3
    exact ⟨by omega, by omega, fun _ => rfl, hr⟩
  · rw [hv] at e
    injection e with e1 e2 e3
    subst e3
    exact ⟨hc, by simpa [maxLen] using hm, fun h => (hn h).2, hr⟩
theorem Arg.below {w w' : World} {C : Nat} {A : Option Addr} {cap : Nat} {l : List UInt8} (h : Arg w A cap l) (hb : Below C w w') (hC : w.heap.size ≤ C) : Arg w' A cap l := ⟨h.le, h.max, h.nil, h.reads.below hb hC⟩
theorem Arg.drewN {w : World} {A : Option Addr} {cap : Nat} {l : List UInt8} (h : Arg w A cap l) (n : Nat) : Arg (w.drewN n) A cap l := ⟨h.le, h.max, h.nil, h.reads⟩
theorem Arg.alloc {w : World} {A : Option Addr} {cap : Nat} {l : List UInt8} (h : Arg w A cap l) (o : Obj) : Arg (w.alloc o) A cap l := ⟨h.le, h.max, h.nil, h.reads.alloc o⟩
theorem Arg.first {w : World} {A : Option Addr} {cap : Nat} {l : List UInt8} (h : Arg w A cap l) (q : Nat) : Arg w A cap (l.take q) := ⟨by have := h.le; rw [List.length_take]; omega, h.max, h.nil, h.reads.first q⟩
theorem Arg.cut {w : World} {A : Option Addr} {cap : Nat} {l : List UInt8} (h : Arg w A cap l) (q : Nat) (hq : q ≤ l.length) : Arg w (cutA A cap q) (cap - q) (l.drop q) :=
  ⟨by have := h.le; rw [List.length_drop]; omega, by have := h.max; omega, fun e => by
    unfold cutA at e
    split at e
    · omega
    · cases A with
      | none => have := h.nil rfl; omega
      | some a => simp at e, h.reads.cut cap q h.le h.nil hq⟩
end Go.Proofs.YtegaahcelogmlaaGreatDoor

namespace Go.Proofs.YtegaahcelogmlaaGreatDoor
open Go.RowKit

/-- A fault with nothing around it. -/
abbrev bareV (code : Int) : Value := .agg #[.int .i64 code, .bool false, .int .i64 0]

theorem bare_any (code : Int) (w : World) :
    Calls Tryz.prog 22 #[.int .i64 code] w fun e w' => e = .returned (bareV code) ∧ Below w.heap.size w w' := by
  go_enter Tryz.func22, Tryz.ntmps22
  go_wp2_with fail
  go_returns
  exact ⟨rfl, balloc (Below.refl _ _) _⟩
theorem none_any (w : World) :
    Calls Tryz.prog 46 #[] w fun e w' => e = .returned (bareV 0) ∧ Below w.heap.size w w' := by
  go_enter Tryz.func46, Tryz.ntmps46
  go_wp2_with fail
  go_returns
  exact ⟨rfl, balloc (Below.refl _ _) _⟩
theorem sameFault_any (a b : Int) (w : World) :
    Calls Tryz.prog 32 #[bareV a, bareV b] w fun e w' => e = .returned (.bool (decide (a = b))) ∧ Below w.heap.size w w' := by
  unfold bareV
  by_cases h : a = b
  · subst h
    go_enter Tryz.func32, Tryz.ntmps32
    go_wp2_with fail
    go_ret
    exact ⟨by simp, balloc (balloc (Below.refl _ _) _) _⟩
  · have h1 : (a == b) = false := by simp [h]
    have hd : decide (a = b) = false := by simp [h]
    rw [hd]
    clear h hd
    go_enter Tryz.func32, Tryz.ntmps32
    go_wp2_with fail
    go_ret
    exact ⟨rfl, balloc (balloc (Below.refl _ _) _) _⟩

theorem blk3 {w w' : World} {a b c : Value} {t : TypeId} (hb : Below (w.alloc (.cells #[a, b, c] t)).heap.size (w.alloc (.cells #[a, b, c] t)) w') :
    w'.cell? ⟨w.heap.size, 0, none⟩ = some a ∧ w'.cell? ⟨w.heap.size, 1, none⟩ = some b ∧ w'.cell? ⟨w.heap.size, 2, none⟩ = some c ∧
    w'.frozen? ⟨w.heap.size, 0, none⟩ = false ∧ w'.frozen? ⟨w.heap.size, 1, none⟩ = false ∧ w'.frozen? ⟨w.heap.size, 2, none⟩ = false ∧ Below w.heap.size w w' := by
  have hblk := hb.block w.heap.size (by simp)
  rw [heap_alloc_new] at hblk
  refine ⟨?_, ?_, ?_, ?_, ?_, ?_, (balloc (Below.refl _ _) _).trans (hb.mono (by simp))⟩ <;> simp [World.cell?, World.frozen?, hblk]
/-- A block of three cells, stored into cell by cell, reads as what was stored. -/
theorem set3 {w' : World} {g : Nat} {a b c : Value} (x y z : Value) (c0 : w'.cell? ⟨g, 0, none⟩ = some a) (c1 : w'.cell? ⟨g, 1, none⟩ = some b) (c2 : w'.cell? ⟨g, 2, none⟩ = some c) :
    (w'.setCell ⟨g, 0, none⟩ x).cell? ⟨g, 0, none⟩ = some x ∧ ((w'.setCell ⟨g, 0, none⟩ x).setCell ⟨g, 1, none⟩ y).cell? ⟨g, 1, none⟩ = some y ∧
    (((w'.setCell ⟨g, 0, none⟩ x).setCell ⟨g, 1, none⟩ y).setCell ⟨g, 2, none⟩ z).cell? ⟨g, 2, none⟩ = some z := by
  refine ⟨World.cell?_setCell_same _ _ _ c0, World.cell?_setCell_same _ _ _ (u := b) ?_, World.cell?_setCell_same _ _ _ (u := c) ?_⟩
  · rw [World.cell?_setCell_other _ _ _ _ (by simp)]; exact c1
  · rw [World.cell?_setCell_other _ _ _ _ (by simp), World.cell?_setCell_other _ _ _ _ (by simp)]; exact c2
theorem bset {a w : World} (h : Below a.heap.size a w) (i : Nat) (v : Value) : Below a.heap.size a (w.setCell ⟨a.heap.size, i, none⟩ v) := h.setCell (Nat.le_refl _) v

/-- An error of errors.New is no error with a place. -/
theorem no_at (a : Addr) (W : World) : (Instr.typeAssert (errV a) 30 92 true).run Tryz.prog W = .ok (.tuple #[.pointer none, .bool false]) W := by
  kernel_rfl

theorem fault_nil (w : World) :
    Calls Tryz.prog 33 #[.nilIface] w fun e w' => e = .returned (bareV 0) ∧ Below w.heap.size w w' := by
  go_enter Tryz.func33, Tryz.ntmps33
  go_wp2_with fail
  refine (none_any _).mono ?_
  rintro e w' ⟨rfl, hb⟩
  obtain ⟨c0, c1, c2, f0, f1, f2, hb'⟩ := blk3 hb
  have HB := hideE hb'
  clear hb hb'
  go_wp2_with fail
  obtain ⟨s0, s1, s2⟩ := set3 (.int .i64 0) (.bool false) (.int .i64 0) c0 c1 c2
  refine bodyPost_ret (v := bareV 0) (by simp [results, Tryz.results33, go_sem, s0, s1, s2]) rfl ⟨rfl, bset (bset (bset HB.out _ _) _ _) _ _⟩
theorem fault_sent (w : World) (p : Nat → Addr) (h : Sents w p) (k : Nat) (hk : k < 19) :
    Calls Tryz.prog 33 #[errV (p k)] w fun e w' => e = .returned (bareV ((101 + k : Nat) : Int)) ∧ Below w.heap.size w w' := by
  have k1 := eql_nil (p k)
  have k2 := no_at (p k)
  have HS := hideE h
  clear h
  have HSE := hideE (fun W hb => sentinel_any W p (HS.out.below hb) k hk)
  unfold errV at *
  go_enter Tryz.func33, Tryz.ntmps33
  go_wp2_with fail
  refine (HSE.out _ (balloc (Below.refl _ _) _)).mono ?_
  rintro e w1 ⟨rfl, hb⟩
  obtain ⟨c0, c1, c2, f0, f1, f2, hb'⟩ := blk3 hb
  have HB := hideE hb'
  have hz : w.heap.size < w1.heap.size := by have := hb.size; simp at this; omega
  clear hb hb'
  generalize hcode : ((101 + k : Nat) : Int) = code at *
  have HCODE := hideE hcode
  clear hcode
  go_wp2_with fail
  refine (bare_any code _).mono ?_
  rintro e w2 ⟨rfl, hb⟩
  have d0 := (hb.cell (p := ⟨w.heap.size, 0, none⟩) hz).trans c0
  have d1 := (hb.cell (p := ⟨w.heap.size, 1, none⟩) hz).trans c1
  have d2 := (hb.cell (p := ⟨w.heap.size, 2, none⟩) hz).trans c2
  have e0 := (hb.frozen (p := ⟨w.heap.size, 0, none⟩) hz).trans f0
  have e1 := (hb.frozen (p := ⟨w.heap.size, 1, none⟩) hz).trans f1
  have e2 := (hb.frozen (p := ⟨w.heap.size, 2, none⟩) hz).trans f2
  have HB2 := hideE (HB.out.trans (hb.mono HB.out.size))
  clear hb c0 c1 c2 f0 f1 f2 k1 k2
  go_wp2_with fail
  obtain ⟨s0, s1, s2⟩ := set3 (.int .i64 code) (.bool false) (.int .i64 0) d0 d1 d2
  refine bodyPost_ret (v := bareV code) (by simp [results, Tryz.results33, go_sem, s0, s1, s2]) rfl ⟨by rw [HCODE.out], bset (bset (bset HB2.out _ _) _ _) _ _⟩

/-- 'Is', by what 'Fault' answers. -/
theorem is_of (v : Value) (a c : Int) (w : World) (hf : ∀ W, Below w.heap.size w W → Calls Tryz.prog 33 #[v] W fun e w' => e = .returned (bareV a) ∧ Below W.heap.size W w') :
    Calls Tryz.prog 11 #[v, .int .i64 c] w fun e w' => e = .returned (.bool (decide (a = c))) ∧ Below w.heap.size w w' := by
  have HF := hideE hf
  clear hf
  go_enter Tryz.func11, Tryz.ntmps11
  go_wp2_with fail
  refine (bare_any c _).mono ?_
  rintro e w1 ⟨rfl, hb1⟩
  have HB1 := hideE hb1
  clear hb1
  go_wp2_with fail
  have same : Calls Tryz.prog 21 #[v, bareV c] w1 fun e w' => e = .returned (.bool (decide (a = c))) ∧ Below w.heap.size w w' := by
    go_enter Tryz.func21, Tryz.ntmps21
    go_wp2_with fail
    refine wp_region_made [5, 6, 7, 8] (fun d => match d with | 5 => .is v | 6 => .is (bareV a) | 7 => .is (bareV c) | 8 => .is (.bool (decide (a = c))) | _ => .any) _ (by kernel_rfl) (by kernel_rfl) rfl (by kernel_rfl) ?_ ?_
    · simp only [List.size_toArray, List.length_cons, List.length_nil, List.take_succ_cons, List.take_zero, StepsOk]
      refine ⟨?_, ?_, ?_, ?_, trivial⟩
      all_goals
        intro ev w2 hb hev hd
        have ev0 : ev (.tmp 0) = v := hev _ (by simp)
        have ev3 : ev (.tmp 3) = .pointer (some ⟨w1.heap.size, 0, none⟩) := hev _ (by simp)
        have evf : ∀ f, ev (.func f) = .func (.func f) #[] #[] := fun f => hev _ (by simp)
        obtain ⟨c0, c1, c2, -, -, -, hb'⟩ := blk3 hb
        have HB' := hideE hb'
        clear hev hb hb'
        simp [DepsOk, Known.is] at hd
        try simp [OpRuns, execOp, go_sem, Known.is, Below.refl, *]
      · exact HF.out _ (HB1.out.trans (HB'.out.mono HB1.out.size))
      · exact sameFault_any a c w2
    · intro f w2 hb hf
      obtain ⟨c0, c1, c2, -, -, -, hb'⟩ := blk3 hb
      have HB' := hideE (HB1.out.trans (hb'.mono HB1.out.size))
      have e8 : f 8 = .bool (decide (a = c)) := hf 8 (by simp)
      clear hf hb hb' c0 c1 c2
      generalize hdd : decide (a = c) = d at *
      have HD := hideE hdd
      clear hdd
      simp only [puts]
      go_wp2_with fail
      go_ret
      exact ⟨by rw [HD.out]; rfl, HB'.out⟩
  refine same.mono ?_
  rintro e w2 ⟨rfl, hb2⟩
  have HB2 := hideE hb2
  clear hb2
  generalize hdd : decide (a = c) = d at *
  have HD := hideE hdd
  clear hdd
  go_wp2_with fail
  go_ret
  exact ⟨by rw [HD.out]; rfl, HB2.out⟩

theorem is_nil (c : Int) (w : World) :
    Calls Tryz.prog 11 #[.nilIface, .int .i64 c] w fun e w' => e = .returned (.bool (decide (0 = c))) ∧ Below w.heap.size w w' :=
  is_of .nilIface 0 c w fun W _ => fault_nil W
theorem is_sent (w : World) (p : Nat → Addr) (h : Sents w p) (k : Nat) (hk : k < 19) (c : Int) :
    Calls Tryz.prog 11 #[errV (p k), .int .i64 c] w fun e w' => e = .returned (.bool (decide (((101 + k : Nat) : Int) = c))) ∧ Below w.heap.size w w' :=
  is_of (errV (p k)) _ c w fun W hb => fault_sent W p (h.below hb) k hk
end Go.Proofs.YtegaahcelogmlaaGreatDoor

namespace Go.Proofs.YtegaahcelogmlaaGreatDoor
open Go Go.RowKit

/-- A relation of worlds that goes on. -/
structure Goes (G : World → World → Prop) : Prop where
  refl : ∀ w, G w w
  trans : ∀ {a b c}, G a b → G b c → G a c
theorem goes_below (C : Nat) : Goes (fun w w' => Below C w w' ∧ C ≤ w.heap.size ∧ C ≤ w'.heap.size ∨ w = w') :=
  ⟨fun _ => .inr rfl, fun {a b c} h k => by
    rcases h with ⟨h, h1, h2⟩ | rfl
    · rcases k with ⟨k, k1, k2⟩ | rfl
      · exact .inl ⟨h.trans k, h1, k2⟩
      · exact .inl ⟨h, h1, h2⟩
    · exact k⟩
/-- What is known of a slot: it outlives what G lets happen. -/
structure Held (G : World → World → Prop) where
  p : Value → World → Prop
  st : ∀ v w1 w2, p v w1 → G w1 w2 → p v w2
def Held.is {G : World → World → Prop} (x : Value) : Held G := ⟨fun v _ => v = x, fun _ _ _ h _ => h⟩
def Held.any {G : World → World → Prop} : Held G := ⟨fun _ _ => True, fun _ _ _ _ _ => trivial⟩

/-- The form: each operation leaves a value in a slot of its own, and waits for earlier ones alone; for its guard, too. -/
def guardAll (ops : Array Oper) : Bool :=
  (List.range ops.size).all (fun i => match ops[i]? with
    | some o => (match o.guard with | none => true | some (j, _) => decide (j < i) && o.after.any (fun e => e.on == j && Region.binds .any e)) && o.after.all (fun e => decide (e.on < i)) && o.dst.isSome
    | none => false) &&
  decide (dstsAll ops).Nodup

structure MidstG (G : World → World → Prop) (ops : Array Oper) (D : Nat → Value → World → Prop) (a : Act) (w : World) (listed : Array Bool) (a' : Act) (w' : World) : Prop where
  size : a'.tmps.size = a.tmps.size
  defers : a'.defers = a.defers
  same : ∀ k, k ∉ dstsAll ops → a'.tmps[k]? = a.tmps[k]?
  goes : G w w'
  known : ∀ i, i < ops.size → listed.getD i false = true → D (dstOf ops i) (a'.tmps.getD (dstOf ops i) undef) w'

def OpGuard (P : Program) (ev : Operand → Value) (o : Oper) (dj : Nat → Nat) (w1 : World) (Post : Value → World → Prop) : Prop :=
  match o.guard with
  | none => OpRuns P ev o w1 Post
  | some (j, b) => ∃ c, ev (.tmp (dj j)) = .bool c ∧ (c = b → OpRuns P ev o w1 Post) ∧ (c ≠ b → Post undef w1)

theorem wpAny_guard {P : Program} {ops : Array Oper} {Q : Exit → Act → World → Prop} {D : Nat → Value → World → Prop} {G : World → World → Prop} (hG : Goes G) {a : Act} {w : World} (hB : guardAll ops = true)
    (hfit : ∀ d ∈ dstsAll ops, d < a.tmps.size)
    (stable : ∀ d v w1 w2, D d v w1 → G w1 w2 → D d v w2)
    (step : ∀ i o, ops[i]? = some o → ∀ (ev : Operand → Value) w1, G w w1 → (∀ x, (∀ d ∈ dstsAll ops, x ≠ .tmp d) → ev x = a.eval x) →
      (∀ e ∈ o.after.toList, Region.binds .any e = true → D (dstOf ops e.on) (ev (.tmp (dstOf ops e.on))) w1) → OpGuard P ev o (dstOf ops) w1 fun v w2 => G w1 w2 ∧ D (dstOf ops i) v w2)
    (last : ∀ f w1, G w w1 → (∀ d ∈ dstsAll ops, D d (f d) w1) → Q .normal (puts a f (dstsAll ops)) w1) :
    ∀ (fuel : Nat) (listed : Array Bool) (a' : Act) (w' : World), listed.size = ops.size → todo listed = fuel → MidstG G ops D a w listed a' w' → wpAny P .any ops Q fuel listed a' w' := by
  have hB' := hB
  simp only [guardAll, Bool.and_eq_true, decide_eq_true_eq, List.all_eq_true, List.mem_range] at hB'
  obtain ⟨hall, hnd⟩ := hB'
  have form : ∀ (i : Nat) (o : Oper), ops[i]? = some o → (∀ j b, o.guard = some (j, b) → j < i ∧ ∃ e ∈ o.after.toList, e.on = j ∧ Region.binds .any e = true) ∧ (∀ e ∈ o.after.toList, e.on < i) ∧ o.dst.isSome = true := by
    intro i o ho
    have hi : i < ops.size := (Array.getElem?_eq_some_iff.1 ho).1
    have h := hall i hi
    rw [ho] at h
    simp only [Bool.and_eq_true] at h
    refine ⟨fun j b hg => ?_, fun e he => ?_, h.2⟩
    · have h1 := h.1.1
      rw [hg] at h1
      simp only [Bool.and_eq_true, decide_eq_true_eq, Array.any_eq_true, beq_iff_eq] at h1
      obtain ⟨h2, k, hk, h3, h4⟩ := h1
      exact ⟨h2, o.after[k], by simp, h3, h4⟩
    · have := Array.all_eq_true_iff_forall_mem.1 h.1.2 e (by simpa using he)
      simpa using this
  have alive : ∀ listed : Array Bool, listed.size = ops.size → 0 < todo listed → Region.ready .any ops listed ≠ [] := by
    intro listed hs ht he
    obtain ⟨i, hi⟩ : ∃ i, i < ops.size ∧ listed.getD i true = false := by
      unfold todo at ht
      obtain ⟨i, hi, e⟩ := List.mem_iff_getElem.1 (List.count_pos_iff.1 ht)
      have hi' : i < listed.size := by simpa using hi
      exact ⟨i, by omega, by simpa [hi'] using e⟩
    obtain ⟨n, ⟨hn, hf⟩, hmin⟩ : ∃ n, (n < ops.size ∧ listed.getD n true = false) ∧ ∀ m, m < n → listed.getD m true = true := by
      have : ∀ k i, i < k → i < ops.size → listed.getD i true = false → ∃ n, (n < ops.size ∧ listed.getD n true = false) ∧ ∀ m, m < n → listed.getD m true = true := by
        intro k
        induction k with
        | zero => intro i h; omega
        | succ k ih =>
          intro i hik h1 h2
          by_cases hm : ∃ m, m < i ∧ listed.getD m true = false
          · obtain ⟨m, hmi, hmf⟩ := hm
            exact ih m (by omega) (by omega) hmf
          · refine ⟨i, ⟨h1, h2⟩, fun m hmi => ?_⟩
            rcases Bool.eq_false_or_eq_true (listed.getD m true) with h | h
            · exact h
            · exact absurd ⟨m, hmi, h⟩ hm
      exact this (i + 1) i (by omega) hi.1 hi.2
    have hmem : n ∈ Region.ready .any ops listed := by
      refine mem_ready.2 ⟨hf, ops[n], by simp [hn], fun e hee _ => ?_⟩
      have hlt := (form n ops[n] (by simp [hn])).2.1 e (by simpa using hee)
      have := hmin e.on hlt
      have hsz : e.on < listed.size := by omega
      simpa [hsz] using this
    rw [he] at hmem
    cases hmem
  intro fuel
  induction fuel with
  | zero =>
    intro listed a' w' hs ht M
    have hdone : ∀ i, i < ops.size → listed.getD i true = true := by
      intro i hi
      rcases Bool.eq_false_or_eq_true (listed.getD i true) with h | h
      · exact h
      · have := todo_set (i := i) (listed := listed) (by omega) h
        omega
    refine ⟨?_, ?_⟩
    · match hr : Region.ready .any ops listed with
      | [] => rfl
      | i :: _ =>
        exfalso
        have hi : i ∈ Region.ready .any ops listed := by rw [hr]; exact List.mem_cons_self
        obtain ⟨h1, o, ho, _⟩ := mem_ready.1 hi
        have hlt : i < ops.size := (Array.getElem?_eq_some_iff.1 ho).1
        rw [hdone i hlt] at h1
        cases h1
    · have hput : a' = puts a (fun k => a'.tmps.getD k undef) (dstsAll ops) := by
        refine act_eq ?_ (by rw [puts_defers, M.defers])
        apply Array.ext_getElem?
        intro k
        rw [puts_get]
        split
        · rename_i h
          have hk : k < a'.tmps.size := by rw [M.size]; exact h.2
          simp [hk]
        · rename_i h
          by_cases hk : k ∈ dstsAll ops
          · exact absurd ⟨hk, hfit k hk⟩ h
          · exact M.same k hk
      have h := last (fun k => a'.tmps.getD k undef) w' M.goes (fun d hd => by
        obtain ⟨j, hj, rfl⟩ := List.mem_map.1 hd
        have hj' := List.mem_range.1 hj
        refine M.known j hj' ?_
        have := hdone j hj'
        have hsz : j < listed.size := by omega
        simpa [hsz] using this)
      rwa [← hput] at h
  | succ fuel ih =>
    intro listed a' w' hs ht M
    refine ⟨fun he => absurd he (alive listed hs (by omega)), fun i hi => ?_⟩
    obtain ⟨h1, o, ho, hdeps⟩ := mem_ready.1 hi
    have hlt : i < ops.size := (Array.getElem?_eq_some_iff.1 ho).1
    have hset := todo_set (i := i) (listed := listed) (by omega) h1
    obtain ⟨hg, hon, hdst⟩ := form i o ho
    obtain ⟨d, hd⟩ : ∃ d, o.dst = some d := Option.isSome_iff_exists.1 hdst
    have hdi : dstOf ops i = d := by simp [dstOf, ho, hd]
    have hdm : d ∈ dstsAll ops := hdi ▸ dstAll_mem hlt
    have hr := step i o ho a'.eval w' M.goes (fun x hx => by
      cases x with
      | tmp t =>
        have hm : t ∉ dstsAll ops := fun hm => hx t hm rfl
        have := M.same t hm
        simp only [Act.eval, Array.getD_eq_getD_getElem?, this]
      | const c => rfl
      | global g => rfl
      | func f => rfl) (fun e he hbd => M.known e.on (by have := hon e he; omega) (hdeps e (by simpa using he) hbd))
    have fin : ∀ v w2, G w' w2 → D (dstOf ops i) v w2 → wpAny P .any ops Q fuel (listed.setIfInBounds i true) (a'.put o.dst v) w2 := fun v w2 hb2 hD => by
      refine ih _ _ w2 (by simpa using hs) (by omega) ?_
      rw [hd]
      refine ⟨by simp [Act.put, M.size], by simp [Act.put, M.defers], fun k hk => ?_, hG.trans M.goes hb2, fun j hj hjl => ?_⟩
      · have hkd : d ≠ k := fun e => hk (e ▸ hdm)
        simp only [Act.put, Array.getElem?_setIfInBounds, if_neg hkd]
        exact M.same k hk
      · by_cases hji : j = i
        · subst hji
          rw [hdi] at hD ⊢
          have hds : d < a'.tmps.size := by rw [M.size]; exact hfit d hdm
          simpa [Act.put, hds] using hD
        · have hne : d ≠ dstOf ops j := fun e => hji (dstAll_inj hnd hj hlt (by rw [hdi, e]))
          have hold : listed.getD j false = true := by rwa [getD_set_ne false (Ne.symm hji)] at hjl
          have := stable _ _ _ _ (M.known j hj hold) hb2
          simpa [Act.put, Array.getElem?_setIfInBounds, hne] using this
    unfold wpOp
    simp only [ho]
    unfold OpGuard at hr
    cases hgd : o.guard with
    | none =>
      rw [hgd] at hr
      rw [if_pos (by simp [Region.wanted, hgd])]
      exact .inl (hr.wp fun v w2 ⟨hb2, hD⟩ => fin v w2 hb2 hD)
    | some jb =>
      obtain ⟨j, b⟩ := jb
      rw [hgd] at hr
      obtain ⟨c, hc, hy, hn⟩ := hr
      have hj : j < ops.size := by have := (hg j b hgd).1; omega
      have hyd : yielded ops a'.tmps j = some c := by
        have hoj : ops[j]? = some ops[j] := by simp [hj]
        obtain ⟨dj, hdj⟩ : ∃ dj, ops[j].dst = some dj := Option.isSome_iff_exists.1 (form j _ hoj).2.2
        have e1 : dstOf ops j = dj := by simp [dstOf, hoj, hdj]
        rw [e1] at hc
        have hcell : a'.tmps[dj]? = some (.bool c) := by
          simp only [Act.eval, Array.getD_eq_getD_getElem?] at hc
          cases ht : a'.tmps[dj]? with
          | none => rw [ht] at hc; simp [undef] at hc
          | some v => rw [ht] at hc; simp at hc; rw [hc]
        unfold yielded
        rw [hoj]
        simp [hdj, hcell]
      by_cases hcb : c = b
      · rw [if_pos (by simp [Region.wanted, hgd, hyd, hcb])]
        exact .inl ((hy hcb).wp fun v w2 ⟨hb2, hD⟩ => fin v w2 hb2 hD)
      · rw [if_neg (by simp [Region.wanted, hgd, hyd, hcb])]
        exact fin undef w' (hn hcb).1 (hn hcb).2

def DepsG {G : World → World → Prop} (dsts : List Nat) (T : Nat → Held G) (ev : Operand → Value) (w1 : World) : List Edge → Prop
  | [] => True
  | e :: es => (T (dsts.getD e.on 0)).p (ev (.tmp (dsts.getD e.on 0))) w1 ∧ DepsG dsts T ev w1 es
def StepG {G : World → World → Prop} (P : Program) (dsts : List Nat) (T : Nat → Held G) (a : Act) (w : World) (o : Oper) (d : Nat) : Prop :=
  ∀ (ev : Operand → Value) w1, G w w1 → (∀ x, (∀ d ∈ dsts, x ≠ .tmp d) → ev x = a.eval x) → DepsG dsts T ev w1 o.after.toList → OpGuard P ev o (fun j => dsts.getD j 0) w1 fun v w2 => G w1 w2 ∧ (T d).p v w2
def StepsG {G : World → World → Prop} (P : Program) (dsts : List Nat) (T : Nat → Held G) (a : Act) (w : World) : List Oper → List Nat → Prop
  | o :: os, d :: ds => StepG P dsts T a w o d ∧ StepsG P dsts T a w os ds
  | _, _ => True
theorem depsG_of {G : World → World → Prop} {dsts : List Nat} {T : Nat → Held G} {ev : Operand → Value} {w1 : World} : ∀ {es : List Edge}, (∀ e ∈ es, (T (dsts.getD e.on 0)).p (ev (.tmp (dsts.getD e.on 0))) w1) → DepsG dsts T ev w1 es
  | [], _ => trivial
  | _ :: _, h => ⟨h _ List.mem_cons_self, depsG_of fun e he => h e (List.mem_cons_of_mem _ he)⟩
theorem stepsG_at {G : World → World → Prop} {P : Program} {dsts : List Nat} {T : Nat → Held G} {a : Act} {w : World} : ∀ {os : List Oper} {ds : List Nat} (_ : StepsG P dsts T a w os ds) (i : Nat) {o : Oper} {d : Nat}, os[i]? = some o → ds[i]? = some d → StepG P dsts T a w o d
  | [], _, _, i, _, _, h, _ => by simp at h
  | _ :: _, [], _, i, _, _, _, h => by simp at h
  | _ :: os, _ :: ds, h, 0, _, _, ho, hd => by simp at ho hd; subst ho hd; exact h.1
  | _ :: os, _ :: ds, h, i + 1, _, _, ho, hd => stepsG_at h.2 i (by simpa using ho) (by simpa using hd)

/-- THE LAW. -/
theorem wp_region_guard {P : Program} {id : Nat} {ops : Array Oper} {Q : Exit → Act → World → Prop} {G : World → World → Prop} (hG : Goes G) (dsts : List Nat) (T : Nat → Held G) {a : Act} {w : World} (hm : P.follows .mixedOrders = true)
    (hB : (guardAll ops && edgesBind ops && decide (dstsAll ops = dsts)) = true)
    (hfit : (dsts.all fun d => decide (d < a.tmps.size)) = true)
    (steps : StepsG P dsts T a w.drew ops.toList dsts)
    (last : ∀ f w1, G w.drew w1 → (∀ d ∈ dsts, (T d).p (f d) w1) → Q .normal (puts a f dsts) w1) : (Code.region id ops true).wp P Q a w := by
  simp only [Bool.and_eq_true, decide_eq_true_eq] at hB
  obtain ⟨⟨hB, hbind⟩, rfl⟩ := hB
  have hB' := hB
  simp only [guardAll, Bool.and_eq_true] at hB'
  have hform := hB'.1
  rw [List.all_eq_true] at hform
  refine wp_region_any hm (wpAny_guard (D := fun d v w => (T d).p v w) hG (w := w.drew) hB (fun d hd => by simpa using List.all_eq_true.1 hfit d hd) (fun d v w1 w2 h hb => (T d).st v w1 w2 h hb)
    (fun i o ho ev w1 hb hev hdeps => ?_) (fun f w1 hb h => last f w1 hb h) _ _ _ _ (by simp) (by simp [todo]) ⟨rfl, rfl, fun _ _ => rfl, hG.refl _, fun i hi h => ?_⟩)
  · have hlt : i < ops.size := (Array.getElem?_eq_some_iff.1 ho).1
    have h1 := stepsG_at steps i (o := o) (d := dstOf ops i) (by simpa using ho) (by simp [dstsAll, hlt])
    have hf := hform i (List.mem_range.2 hlt)
    rw [ho] at hf
    simp only [Bool.and_eq_true] at hf
    have hget : ∀ j, j < ops.size → (dstsAll ops).getD j 0 = dstOf ops j := fun j hj => by simp [dstsAll, List.getD, hj]
    have h2 := h1 ev w1 hb hev (depsG_of fun e he => ?_)
    · unfold OpGuard at h2 ⊢
      cases hgd : o.guard with
      | none => rw [hgd] at h2; exact h2
      | some jb =>
        obtain ⟨j, b⟩ := jb
        rw [hgd] at h2
        have hj : j < i := by
          have h3 := hf.1.1
          rw [hgd] at h3
          simp only [Bool.and_eq_true, decide_eq_true_eq] at h3
          exact h3.1
        simp only [hget j (by omega)] at h2
        exact h2
    · have hon : e.on < i := by simpa using Array.all_eq_true_iff_forall_mem.1 hf.1.2 e (by simpa using he)
      have hbd : Region.binds .any e = true := by
        have h2 := Array.all_eq_true_iff_forall_mem.1 hbind o (Array.mem_of_getElem? ho)
        exact Array.all_eq_true_iff_forall_mem.1 h2 e (by simpa using he)
      rw [hget e.on (by omega)]
      exact hdeps e he hbd
  · have h0 : (Array.replicate ops.size false).getD i false = false := by simp [show i < ops.size by omega]
    rw [h0] at h; cases h
end Go.Proofs.YtegaahcelogmlaaGreatDoor

namespace Go.Proofs.YtegaahcelogmlaaGreatDoor
open Go Go.RowKit

/-- As openForm, but an operation may be waited for by one that is waited for. -/
def openForm2 (ops : Array Oper) : Bool :=
  decide (0 < ops.size) &&
  (List.range ops.size).all (fun i => match ops[i]? with
    | some o => o.guard.isNone && o.after.all (fun e => decide (e.on < i)) && (decide (i = ops.size - 1) || o.dst.isSome)
    | none => false) &&
  (List.range (ops.size - 1)).all (fun i => match ops[ops.size - 1]? with
    | some o => o.after.any (fun e => e.on == i && Region.binds .any e) || o.after.any (fun e => Region.binds .any e && (match ops[e.on]? with
      | some o2 => o2.after.any (fun e2 => e2.on == i && Region.binds .any e2)
      | none => false))
    | none => false) &&
  decide (dstsOf ops).Nodup

structure MidstS (G : World → World → Prop) (P : Program) (ops : Array Oper) (D : Nat → Value → World → Prop) (a : Act) (w : World) (listed : Array Bool) (a' : Act) (w' : World) : Prop where
  size : a'.tmps.size = a.tmps.size
  defers : a'.defers = a.defers
  same : ∀ k, k ∉ dstsOf ops → a'.tmps[k]? = a.tmps[k]?
  below : G w w'
  known : ∀ i, i < ops.size - 1 → listed.getD i false = true → D (dstOf ops i) (a'.tmps.getD (dstOf ops i) undef) w'
  closed : ∀ (j : Nat) (o : Oper), ops[j]? = some o → listed.getD j false = true → ∀ e ∈ o.after.toList, Region.binds .any e = true → listed.getD e.on false = true

theorem wpAny_openS {G : World → World → Prop} (hG : Goes G) {P : Program} {ops : Array Oper} {Q : Exit → Act → World → Prop} {D : Nat → Value → World → Prop} {a : Act} {w : World} (hB : openForm2 ops = true)
    (hfit : ∀ d ∈ dstsOf ops, d < a.tmps.size)
    (stable : ∀ d v w1 w2, D d v w1 → G w1 w2 → D d v w2)
    (step : ∀ i o, i < ops.size - 1 → ops[i]? = some o → ∀ (ev : Operand → Value) w1, G w w1 → (∀ x, (∀ d ∈ dstsOf ops, x ≠ .tmp d) → ev x = a.eval x) →
      (∀ e ∈ o.after.toList, e.on < ops.size - 1 → Region.binds .any e = true → D (dstOf ops e.on) (ev (.tmp (dstOf ops e.on))) w1) → OpRuns P ev o w1 fun v w2 => G w1 w2 ∧ D (dstOf ops i) v w2)
    (last : ∀ o, ops[ops.size - 1]? = some o → ∀ f w1, G w w1 → (∀ d ∈ dstsOf ops, D d (f d) w1) → o.wp P (puts a f (dstsOf ops)) w1 (fun a' w' => Q .normal a' w') Q ∨ (o.asks P (puts a f (dstsOf ops)) w1 ∧ LetsOut Q)) :
    ∀ (fuel : Nat) (listed : Array Bool) (a' : Act) (w' : World), listed.size = ops.size → todo listed = fuel →
      (listed.getD (ops.size - 1) true = false → MidstS G P ops D a w listed a' w') → (listed.getD (ops.size - 1) true = true → todo listed = 0 ∧ Q .normal a' w') → wpAny P .any ops Q fuel listed a' w' := by
  have hB' := hB
  simp only [openForm2, Bool.and_eq_true, decide_eq_true_eq, List.all_eq_true, List.mem_range] at hB'
  obtain ⟨⟨⟨hpos, hall⟩, hlast⟩, hnd⟩ := hB'
  -- each operation's own form
  have form : ∀ i o, ops[i]? = some o → o.guard = none ∧ (∀ e ∈ o.after.toList, e.on < i) ∧ (i = ops.size - 1 ∨ o.dst.isSome = true) := by
    intro i o ho
    have hi : i < ops.size := (Array.getElem?_eq_some_iff.1 ho).1
    have h := hall i hi
    rw [ho] at h
    simp only [Bool.and_eq_true, Bool.or_eq_true, decide_eq_true_eq, Option.isNone_iff_eq_none] at h
    refine ⟨h.1.1, fun e he => ?_, h.2⟩
    have := Array.all_eq_true_iff_forall_mem.1 h.1.2 e (by simpa using he)
    simpa using this
  -- where some are still to come one may come up
  have alive : ∀ listed : Array Bool, listed.size = ops.size → 0 < todo listed → Region.ready .any ops listed ≠ [] := by
    intro listed hs ht he
    obtain ⟨i, hi⟩ : ∃ i, i < ops.size ∧ listed.getD i true = false := by
      unfold todo at ht
      obtain ⟨i, hi, e⟩ := List.mem_iff_getElem.1 (List.count_pos_iff.1 ht)
      have hi' : i < listed.size := by simpa using hi
      exact ⟨i, by omega, by simpa [hi'] using e⟩
    obtain ⟨n, ⟨hn, hf⟩, hmin⟩ : ∃ n, (n < ops.size ∧ listed.getD n true = false) ∧ ∀ m, m < n → listed.getD m true = true := by
      have : ∀ k i, i < k → i < ops.size → listed.getD i true = false → ∃ n, (n < ops.size ∧ listed.getD n true = false) ∧ ∀ m, m < n → listed.getD m true = true := by
        intro k
        induction k with
        | zero => intro i h; omega
        | succ k ih =>
          intro i hik h1 h2
          by_cases hm : ∃ m, m < i ∧ listed.getD m true = false
          · obtain ⟨m, hmi, hmf⟩ := hm
            exact ih m (by omega) (by omega) hmf
          · refine ⟨i, ⟨h1, h2⟩, fun m hmi => ?_⟩
            rcases Bool.eq_false_or_eq_true (listed.getD m true) with h | h
            · exact h
            · exact absurd ⟨m, hmi, h⟩ hm
      exact this (i + 1) i (by omega) hi.1 hi.2
    have hmem : n ∈ Region.ready .any ops listed := by
      refine mem_ready.2 ⟨hf, ops[n], by simp [hn], fun e hee _ => ?_⟩
      have hlt := (form n ops[n] (by simp [hn])).2.1 e (by simpa using hee)
      have := hmin e.on hlt
      have hsz : e.on < listed.size := by omega
      simpa [hsz] using this
    rw [he] at hmem
    cases hmem
  intro fuel
  induction fuel with
  | zero =>
    intro listed a' w' hs ht _ hdone
    have hl : listed.getD (ops.size - 1) true = true := by
      rcases Bool.eq_false_or_eq_true (listed.getD (ops.size - 1) true) with h | h
      · exact h
      · have := todo_set (i := ops.size - 1) (listed := listed) (by omega) h
        omega
    refine ⟨?_, (hdone hl).2⟩
    match hr : Region.ready .any ops listed with
    | [] => rfl
    | i :: _ =>
      exfalso
      have hi : i ∈ Region.ready .any ops listed := by rw [hr]; exact List.mem_cons_self
      obtain ⟨h1, o, ho, _⟩ := mem_ready.1 hi
      have hlt : i < ops.size := (Array.getElem?_eq_some_iff.1 ho).1
      have := todo_set (i := i) (listed := listed) (by omega) h1
      omega
  | succ fuel ih =>
    intro listed a' w' hs ht hmid hdone
    refine ⟨fun he => absurd he (alive listed hs (by omega)), fun i hi => ?_⟩
    obtain ⟨h1, o, ho, hdeps⟩ := mem_ready.1 hi
    have hlt : i < ops.size := (Array.getElem?_eq_some_iff.1 ho).1
    have hset := todo_set (i := i) (listed := listed) (by omega) h1
    obtain ⟨hg, hon, hdst⟩ := form i o ho
    have hl : listed.getD (ops.size - 1) true = false := by
      rcases Bool.eq_false_or_eq_true (listed.getD (ops.size - 1) true) with h | h
      · have := (hdone h).1; omega
      · exact h
    have M := hmid hl
    unfold wpOp
    simp only [ho]
    rw [if_pos (by simp [Region.wanted, hg])]
    by_cases hil : i = ops.size - 1
    · -- the last: all others have come up
      subst hil
      have hallL : ∀ j, j < ops.size - 1 → listed.getD j false = true := by
        intro j hj
        have h := hlast j hj
        rw [ho] at h
        simp only [Bool.or_eq_true, Array.any_eq_true, Bool.and_eq_true, beq_iff_eq] at h
        rcases h with ⟨k, hk, h2, h3⟩ | ⟨k, hk, h3, h4⟩
        · have := hdeps o.after[k] (Array.getElem_mem hk) h3
          rwa [h2] at this
        · have h5 := hdeps o.after[k] (Array.getElem_mem hk) h3
          cases ho2 : ops[o.after[k].on]? with
          | none => rw [ho2] at h4; cases h4
          | some o2 =>
            rw [ho2] at h4
            simp only [Array.any_eq_true, Bool.and_eq_true, beq_iff_eq] at h4
            obtain ⟨k2, hk2, h6, h7⟩ := h4
            have := M.closed _ o2 ho2 h5 o2.after[k2] (by simp) h7
            rwa [h6] at this
      have hput : a' = puts a (fun k => a'.tmps.getD k undef) (dstsOf ops) := by
        have ht : a'.tmps = (puts a (fun k => a'.tmps.getD k undef) (dstsOf ops)).tmps := by
          apply Array.ext_getElem?
          intro k
          rw [puts_get]
          split
          · rename_i h
            have hk : k < a'.tmps.size := by rw [M.size]; exact h.2
            simp [hk]
          · rename_i h
            by_cases hk : k ∈ dstsOf ops
            · exact absurd ⟨hk, hfit k hk⟩ h
            · exact M.same k hk
        have hd : a'.defers = (puts a (fun k => a'.tmps.getD k undef) (dstsOf ops)).defers := by rw [puts_defers, M.defers]
        exact act_eq ht hd
      have h := last o ho (fun k => a'.tmps.getD k undef) w' M.below (fun d hd => by
        obtain ⟨j, hj, rfl⟩ := List.mem_map.1 hd
        exact M.known j (List.mem_range.1 hj) (hallL j (List.mem_range.1 hj)))
      rw [← hput] at h
      have hall0 : todo (listed.setIfInBounds (ops.size - 1) true) = 0 := by
        unfold todo
        rw [List.count_eq_zero]
        intro hmem
        obtain ⟨j, hj, e⟩ := List.mem_iff_getElem.1 hmem
        have hj' : j < listed.size := by simpa using hj
        by_cases hjl : j = ops.size - 1
        · subst hjl
          simp at e
        · have h2 := hallL j (by omega)
          have e2 : listed[j] = false := by
            simpa [Array.getElem_setIfInBounds, Ne.symm hjl] using e
          simp [hj', e2] at h2
      refine h.imp (fun h => Oper.wp_mono (fun a2 w2 hq => ih _ a2 w2 (by simpa using hs) (by omega) (fun h => ?_) (fun _ => ⟨hall0, hq⟩)) h) id
      rw [getD_set_self (by omega)] at h
      cases h
    · -- one of the others
      have hi1 : i < ops.size - 1 := by omega
      obtain ⟨d, hd⟩ : ∃ d, o.dst = some d := Option.isSome_iff_exists.1 (hdst.resolve_left hil)
      have hdi : dstOf ops i = d := by simp [dstOf, ho, hd]
      have hdm : d ∈ dstsOf ops := hdi ▸ dst_mem hi1
      have hr := step i o hi1 ho a'.eval w' M.below (fun x hx => by
        cases x with
        | tmp t =>
          have hm : t ∉ dstsOf ops := fun hm => hx t hm rfl
          have := M.same t hm
          simp only [Act.eval, Array.getD_eq_getD_getElem?, this]
        | const c => rfl
        | global g => rfl
        | func f => rfl) (fun e he hen hbd => M.known e.on hen (hdeps e (by simpa using he) hbd))
      left
      refine hr.wp fun v w2 ⟨hb2, hD⟩ => ih _ _ w2 (by simpa using hs) (by omega) (fun _ => ?_) (fun h => ?_)
      · rw [hd]
        refine ⟨by simp [Act.put, M.size], by simp [Act.put, M.defers], fun k hk => ?_, hG.trans M.below hb2, fun j hj hjl => ?_, fun j o2 ho2 hjl e he hbd => ?_⟩
        · have hkd : d ≠ k := fun e => hk (e ▸ hdm)
          simp only [Act.put, Array.getElem?_setIfInBounds, if_neg hkd]
          exact M.same k hk
        · by_cases hji : j = i
          · subst hji
            rw [hdi] at hD ⊢
            have hds : d < a'.tmps.size := by rw [M.size]; exact hfit d hdm
            simpa [Act.put, hds] using hD
          · have hne : d ≠ dstOf ops j := fun e => hji (dst_inj hnd hj hi1 (by rw [hdi, e]))
            have hold : listed.getD j false = true := by rwa [getD_set_ne false (Ne.symm hji)] at hjl
            have := stable _ _ _ _ (M.known j hj hold) hb2
            simpa [Act.put, Array.getElem?_setIfInBounds, hne] using this
        · have mono : ∀ x, listed.getD x false = true → (listed.setIfInBounds i true).getD x false = true := fun x hx => by
            by_cases hxi : x = i
            · subst hxi; exact getD_set_self (by omega) false
            · rw [getD_set_ne false (Ne.symm hxi)]; exact hx
          by_cases hji : j = i
          · subst hji
            obtain rfl : o2 = o := Option.some.inj (ho2.symm.trans ho)
            exact mono _ (hdeps e (by simpa using he) hbd)
          · have hold : listed.getD j false = true := by rwa [getD_set_ne false (Ne.symm hji)] at hjl
            exact mono _ (M.closed j o2 ho2 hold e he hbd)
      · rw [getD_set_ne true hil] at h
        rw [hl] at h
        cases h

/-- THE LAW. -/
theorem wp_region_openS {G : World → World → Prop} (hG : Goes G) {P : Program} {id : Nat} {ops : Array Oper} {Q : Exit → Act → World → Prop} (D : Nat → Value → World → Prop) {a : Act} {w : World} (hm : P.follows .mixedOrders = true) (hB : openForm2 ops = true)
    (hfit : ((dstsOf ops).all fun d => decide (d < a.tmps.size)) = true)
    (stable : ∀ d v w1 w2, D d v w1 → G w1 w2 → D d v w2)
    (step : ∀ i o, i < ops.size - 1 → ops[i]? = some o → ∀ (ev : Operand → Value) w1, G w.drew w1 → (∀ x, (∀ d ∈ dstsOf ops, x ≠ .tmp d) → ev x = a.eval x) →
      (∀ e ∈ o.after.toList, e.on < ops.size - 1 → Region.binds .any e = true → D (dstOf ops e.on) (ev (.tmp (dstOf ops e.on))) w1) → OpRuns P ev o w1 fun v w2 => G w1 w2 ∧ D (dstOf ops i) v w2)
    (last : ∀ o, ops[ops.size - 1]? = some o → ∀ f w1, G w.drew w1 → (∀ d ∈ dstsOf ops, D d (f d) w1) → wpList P ops Q [o] (puts a f (dstsOf ops)) w1) : (Code.region id ops true).wp P Q a w := by
  have hB' := hB
  simp only [openForm2, Bool.and_eq_true, decide_eq_true_eq] at hB'
  have hpos := hB'.1.1.1
  refine wp_region_any hm (wpAny_openS hG (D := D) (w := w.drew) hB (fun d hd => by simpa using List.all_eq_true.1 hfit d hd) stable
    step (fun o ho f w1 hb hD => ?_) _ _ _ _ (by simp) ?_ (fun _ => ?_) (fun h => ?_))
  · have h := last o ho f w1 hb hD
    have hall := hB'.1.1.2
    rw [List.all_eq_true] at hall
    have hg := hall (ops.size - 1) (List.mem_range.2 (by omega))
    rw [ho] at hg
    simp only [Bool.and_eq_true, Option.isNone_iff_eq_none] at hg
    unfold wpList at h
    rw [if_pos (by simp [Region.wanted, hg.1.1])] at h
    exact h
  · simp [todo]
  · refine ⟨rfl, rfl, fun _ _ => rfl, hG.refl _, fun i hi h => ?_, fun j o2 ho2 h => ?_⟩
    · have h0 : (Array.replicate ops.size false).getD i false = false := by simp [show i < ops.size by omega]
      rw [h0] at h; cases h
    · have hj : j < ops.size := (Array.getElem?_eq_some_iff.1 ho2).1
      have h0 : (Array.replicate ops.size false).getD j false = false := by simp [hj]
      rw [h0] at h; cases h
  · have h0 : (Array.replicate ops.size false).getD (ops.size - 1) true = false := by simp [show ops.size - 1 < ops.size by omega]
    rw [h0] at h; cases h
def StepH {G : World → World → Prop} (P : Program) (dsts : List Nat) (T : Nat → Held G) (a : Act) (w : World) (o : Oper) (d : Nat) : Prop :=
  ∀ (ev : Operand → Value) w1, G w w1 → (∀ x, (∀ d ∈ dsts, x ≠ .tmp d) → ev x = a.eval x) → DepsG dsts T ev w1 o.after.toList → OpRuns P ev o w1 fun v w2 => G w1 w2 ∧ (T d).p v w2
def StepsH {G : World → World → Prop} (P : Program) (dsts : List Nat) (T : Nat → Held G) (a : Act) (w : World) : List Oper → List Nat → Prop
  | o :: os, d :: ds => StepH P dsts T a w o d ∧ StepsH P dsts T a w os ds
  | _, _ => True
theorem stepsH_at {G : World → World → Prop} {P : Program} {dsts : List Nat} {T : Nat → Held G} {a : Act} {w : World} : ∀ {os : List Oper} {ds : List Nat} (_ : StepsH P dsts T a w os ds) (i : Nat) {o : Oper} {d : Nat}, os[i]? = some o → ds[i]? = some d → StepH P dsts T a w o d
  | [], _, _, i, _, _, h, _ => by simp at h
  | _ :: _, [], _, i, _, _, _, h => by simp at h
  | _ :: os, _ :: ds, h, 0, _, _, ho, hd => by simp at ho hd; subst ho hd; exact h.1
  | _ :: os, _ :: ds, h, i + 1, _, _, ho, hd => stepsH_at h.2 i (by simpa using ho) (by simpa using hd)

/-- A region that is written out, its last operation a store that waits for all. -/
theorem wp_region_store {G : World → World → Prop} (hG : Goes G) {P : Program} {id : Nat} {ops : Array Oper} {Q : Exit → Act → World → Prop} (dsts : List Nat) (T : Nat → Held G) (o : Oper) {a : Act} {w : World} (hm : P.follows .mixedOrders = true)
    (hB : (openForm2 ops && edgesBind ops && decide (dstsOf ops = dsts)) = true)
    (ho : ops[ops.size - 1]? = some o)
    (hfit : (dsts.all fun d => decide (d < a.tmps.size)) = true)
    (steps : StepsH P dsts T a w.drew (ops.toList.take (ops.size - 1)) dsts)
    (last : ∀ f w1, G w.drew w1 → (∀ d ∈ dsts, (T d).p (f d) w1) → wpList P ops Q [o] (puts a f dsts) w1) : (Code.region id ops true).wp P Q a w := by
  simp only [Bool.and_eq_true, decide_eq_true_eq] at hB
  obtain ⟨⟨hB, hbind⟩, rfl⟩ := hB
  have hB' := hB
  simp only [openForm2, Bool.and_eq_true, decide_eq_true_eq] at hB'
  have hform := hB'.1.1.2
  rw [List.all_eq_true] at hform
  refine wp_region_openS hG (fun d v w => (T d).p v w) hm hB hfit (fun d v w1 w2 h hb => (T d).st v w1 w2 h hb) ?_ (fun o' ho' f w1 hb h => ?_)
  · intro i o hi ho ev w1 hb hev hdeps
    have hlt : i < ops.size := by omega
    have h1 := stepsH_at steps i (o := o) (d := dstOf ops i) (by
      rw [List.getElem?_take, if_pos hi]
      simpa using ho) (by simp [dstsOf, hi])
    refine h1 ev w1 hb hev (depsG_of fun e he => ?_)
    have hf := hform i (List.mem_range.2 hlt)
    rw [ho] at hf
    simp only [Bool.and_eq_true] at hf
    have hon : e.on < i := by simpa using Array.all_eq_true_iff_forall_mem.1 hf.1.2 e (by simpa using he)
    have hbd : Region.binds .any e = true := by
      have h2 := Array.all_eq_true_iff_forall_mem.1 hbind o (Array.mem_of_getElem? ho)
      exact Array.all_eq_true_iff_forall_mem.1 h2 e (by simpa using he)
    have hg : (dstsOf ops).getD e.on 0 = dstOf ops e.on := by simp [dstsOf, List.getD, show e.on < ops.size - 1 by omega]
    rw [hg]
    exact hdeps e he (by omega) hbd
  · obtain rfl : o' = o := Option.some.inj (ho'.symm.trans ho)
    exact last f w1 hb h


end Go.Proofs.YtegaahcelogmlaaGreatDoor

namespace Go.Proofs.YtegaahcelogmlaaGreatDoor
open Go.RowKit Go.ChangeShapes Go.WideShapes Go.ChangeAt

/-- A slice that reads as these ints. -/
def Ints (w : World) (A : Option Addr) (zs : List Int) : Prop :=
  zs = [] ∨ ∃ b off, A = some ⟨b, off, none⟩ ∧ b < w.heap.size ∧ ∀ k, k < zs.length → w.cell? ⟨b, off + k, none⟩ = some (.int .i64 (zs.getD k 0))
theorem Ints.below {w w' : World} {C : Nat} {A : Option Addr} {zs : List Int} (h : Ints w A zs) (hb : Below C w w') (hC : w.heap.size ≤ C) : Ints w' A zs := by
  rcases h with h | ⟨b, off, e, hlt, hc⟩
  · exact .inl h
  · exact .inr ⟨b, off, e, by have := hb.size; omega, fun k hk => (hb.cell (p := ⟨b, off + k, none⟩) (by show b < C; omega)).trans (hc k hk)⟩
theorem cells_int : Tryz.prog.cellsOf 3 = 1 := by kernel_rfl
theorem ints_of {H : Type} {enc : TypeId × Value → H} {W : World} {base : Nat} {spare : Nat → Bool} {held : Bool} {a : Option Addr} {len cap : Nat} {d : DataW H} {p : List MemPlace}
    (h : DataW.Trod enc Tryz.prog W base spare held 23 (.slice a len cap) d p) : ∃ zs : List Int, zs.length = len ∧ len ≤ cap ∧ cap ≤ 9223372036854775807 ∧ Ints W a zs ∧ ∀ k, k < len → -9223372036854775808 ≤ zs.getD k 0 ∧ zs.getD k 0 ≤ 9223372036854775807 := by
  obtain ⟨fuel, hf⟩ := h
  rcases open_ints Tryz.underlying23 Tryz.underlying3 cells_int hf with ⟨hcs, _⟩ | ⟨x, l, c, zs, hcs, _, hl, hm, hz, _, hcell, hwz⟩
  · simp [Value.cells] at hcs
    obtain ⟨rfl, rfl, rfl⟩ := hcs
    exact ⟨[], rfl, Nat.le_refl _, by omega, .inl rfl, fun k hk => by omega⟩
  · simp [Value.cells] at hcs
    obtain ⟨rfl, rfl, rfl⟩ := hcs
    have hzl : len ≤ zs.length := by split at hz <;> omega
    have e : ∀ k, k < len → (zs.take len).getD k 0 = zs.getD k 0 := fun k hk => by simp [List.getD, hk]
    refine ⟨zs.take len, by simp; omega, hl, by simpa [maxLen] using hm, ?_, fun k hk => ?_⟩
    · by_cases h0 : len = 0
      · subst h0; exact .inl (by simp)
      · obtain ⟨b, off, spot⟩ := x
        have hc := hcell 0 (by omega)
        have hspot : spot = none := by simpa [Addr.add] using World.cell?_spot hc
        subst hspot
        refine .inr ⟨b, off, rfl, ?_, fun k hk => ?_⟩
        · rcases Nat.lt_or_ge b W.heap.size with h | h
          · exact h
          · exfalso
            simp [World.cell?, Addr.add, Array.getElem?_eq_none h] at hc
        · have hk' : k < len := by simp at hk; omega
          have hck := hcell k (by omega)
          rw [Addr.add_lit] at hck
          rw [hck, e k hk']
    · rw [e k hk]
      have hmem : zs.getD k 0 ∈ zs := by
        simp only [List.getD, List.getElem?_eq_getElem (show k < zs.length by omega), Option.getD_some]
        exact List.getElem_mem _
      exact bounds_i64 (hwz _ hmem)
end Go.Proofs.YtegaahcelogmlaaGreatDoor

namespace Go.Proofs.YtegaahcelogmlaaGreatDoor
open Go.RowKit Go.ChangeShapes Go.WideShapes Go.ChangeAt

/-- Numbers that are read from a row. -/
structure IntsArg (w : World) (A : Option Addr) (c : Nat) (zs : List Int) : Prop where
  le : zs.length ≤ c
  max : c ≤ 9223372036854775807
  nil : A = none → c = 0
  get : ∀ j, j < zs.length → ∃ b off, A = some ⟨b, off, none⟩ ∧ w.cell? ⟨b, off + j, none⟩ = some (.int .i64 (zs.getD j 0))
  fit : ∀ z ∈ zs, -9223372036854775808 ≤ z ∧ z ≤ 9223372036854775807

theorem IntsArg.below {w w' : World} {C : Nat} {A : Option Addr} {c : Nat} {zs : List Int} (h : IntsArg w A c zs) (hb : Below C w w') (hC : w.heap.size ≤ C) : IntsArg w' A c zs :=
  ⟨h.le, h.max, h.nil, fun j hj => by
    obtain ⟨b, off, e, hc⟩ := h.get j hj
    refine ⟨b, off, e, (hb.cell (p := ⟨b, off + j, none⟩) ?_).trans hc⟩
    show b < C
    rcases Nat.lt_or_ge b w.heap.size with h1 | h1
    · omega
    · exfalso
      simp [World.cell?, Array.getElem?_eq_none h1] at hc, h.fit⟩
theorem IntsArg.lt {w : World} {A : Option Addr} {c : Nat} {zs : List Int} (h : IntsArg w A c zs) (x o : Nat) (e : A = some ⟨x, o, none⟩) (hz : zs ≠ []) : x < w.heap.size := by
  obtain ⟨b, off, e', hc⟩ := h.get 0 (List.length_pos_iff.2 hz)
  rw [e] at e'
  cases e'
  rcases Nat.lt_or_ge x w.heap.size with h1 | h1
  · exact h1
  · exfalso
    simp [World.cell?, Array.getElem?_eq_none h1] at hc
theorem Arg.lt {w : World} {A : Option Addr} {c : Nat} {l : List UInt8} (h : Arg w A c l) (x o : Nat) (e : A = some ⟨x, o, none⟩) (hl : l ≠ []) : x < w.heap.size := by
  rcases h.reads with h1 | ⟨b, off, h1, h2, -⟩
  · exact absurd h1 hl
  · rw [h1] at e; cases e; exact h2
theorem intsCap_of {H : Type} {enc : TypeId × Value → H} {W : World} {base : Nat} {spare : Nat → Bool} {held : Bool} {a : Option Addr} {len cap : Nat} {d : DataW H} {p : List MemPlace}
    (h : DataW.Trod enc Tryz.prog W base spare held 23 (.slice a len cap) d p) : a = none → cap = 0 := by
  obtain ⟨fuel, hf⟩ := h
  rcases open_ints Tryz.underlying23 Tryz.underlying3 cells_int hf with ⟨hcs, _⟩ | ⟨x, l, c, zs, hcs, _⟩
  · simp [Value.cells] at hcs
    obtain ⟨rfl, rfl, rfl⟩ := hcs
    exact fun _ => rfl
  · simp [Value.cells] at hcs
    obtain ⟨rfl, rfl, rfl⟩ := hcs
    intro e
    cases e
theorem intsArg_of {W : World} {A : Option Addr} {cap : Nat} {zs : List Int} (le : zs.length ≤ cap) (mx : cap ≤ 9223372036854775807) (hi : Ints W A zs) (hz : ∀ k, k < zs.length → -9223372036854775808 ≤ zs.getD k 0 ∧ zs.getD k 0 ≤ 9223372036854775807) (hn : A = none → cap = 0) : IntsArg W A cap zs :=
  ⟨le, mx, hn, fun j hj => by
    rcases hi with h | ⟨b, off, e, -, hc⟩
    · subst h; exact absurd hj (Nat.not_lt_zero _)
    · exact ⟨b, off, e, hc j hj⟩, fun z hz' => by
    obtain ⟨k, hk, rfl⟩ := List.getElem_of_mem hz'
    have := hz k hk
    simpa [List.getD, List.getElem?_eq_getElem hk] using this⟩
theorem own_n {w : World} {base n : Nat} {v : Value} {l : List UInt8} (h : Own w base v l) (hl : l.length = n) : ∃ A c, v = .slice A n c ∧ Arg w A c l := by
  obtain ⟨A, c, hv, ha⟩ := h.arg
  exact ⟨A, c, by rw [hv, hl], ha⟩
end Go.Proofs.YtegaahcelogmlaaGreatDoor

namespace Go.Proofs.YtegaahcelogmlaaGreatDoor
open Go.RowKit

theorem run_eql_bytes_nil (A : Option Addr) (n c : Nat) (w : World) : (binOp .eql 22 (.slice A n c) (.slice none 0 0)).run Tryz.prog w = .ok (.bool A.isNone) w := by
  have ht : Tryz.prog.underlying 22 = some (.slice 5) := by kernel_rfl
  have h : ∀ d : Nat, (Op.equalIn (d + 1) 22 (.slice A n c) (.slice none 0 0)).run Tryz.prog w = .ok A.isNone w := fun d => by cases A <;> simp [Op.equalIn, run_underlying ht]
  simp only [binOp]
  simp [Op.equal, Op.maxDepth, h 9999]
theorem Own.none_yet (w : World) (base : Nat) (hb : base ≤ w.heap.size) : Own (w.alloc (.cells #[] 5)) base (.slice (some ⟨w.heap.size, 0, none⟩) 0 0) [] :=
  World.ownsRow_made w #[] 0 hb (Nat.zero_le _) rfl

/-- A copy in a row of its own. -/
theorem bclone_any (A : Option Addr) (cap n : Nat) (l : List UInt8) (w : World) (hn : l.length = n) (hl : n ≤ 1000000000) (ha : Arg w A cap l) :
    Calls Tryz.prog 23 #[.slice A n cap] w fun e w' => ∃ v, e = .returned v ∧ Own w' w.heap.size v l ∧ Below w.heap.size w w' := by
  have ks := fun W => run_eql_bytes_nil A n cap W
  cases A with
  | none =>
    have h0 : l = [] := by
      have := ha.nil rfl
      have := ha.le
      exact List.eq_nil_of_length_eq_zero (by omega)
    subst h0
    obtain rfl : n = 0 := hn.symm
    have hc := ha.nil rfl
    subst hc
    clear ha hn
    go_enter Tryz.func23, Tryz.ntmps23
    go_wp2_with fail
    go_ret
    exact ⟨_, rfl, Own.nil _ _, Below.refl _ _⟩
  | some a =>
    have HA := hide ha
    have HN := hide hn
    have HO := hide (Own.none_yet w w.heap.size (Nat.le_refl _))
    clear ha hn
    go_enter Tryz.func23, Tryz.ntmps23
    go_wp2_with (at_builtin; refine wpList_app (w := w.alloc _) rfl (.tmp 5) (.tmp 6) rfl w.heap.size _ [] l rfl HO.out (some a) n cap rfl HN.out (HA.out.reads.alloc _) (by simp; omega) (by simp) ?_; intro v w3 hown3 hg3 hv3)
    have hb : Below w.heap.size w w3 := (balloc (Below.refl _ _) _).grown hg3 (by simp) (fun g hg => (HO.out.lt g hg).1)
    rw [List.nil_append] at hown3
    go_ret
    exact ⟨v, rfl, hown3, hb⟩

end Go.Proofs.YtegaahcelogmlaaGreatDoor

namespace Go.Proofs.YtegaahcelogmlaaGreatDoor
open Go.RowKit
attribute [local go_sem] BtoNat x8 and8_15

theorem tmod_up (n b : Int) (hb : 0 < b) (hn : n < 0) (hm : n % b ≠ 0) : n.tmod b = n % b - b := by
  rw [Int.tmod_eq_emod]
  rw [if_neg]
  · simp; omega
  · rintro (h | h)
    · omega
    · exact hm (Int.emod_eq_zero_of_dvd h)
theorem tmod_nil (n b : Int) (hm : n % b = 0) : n.tmod b = 0 := Int.tmod_eq_zero_of_dvd (Int.dvd_of_emod_eq_zero hm)

theorem number_any (n b : Int) (w : World) (hb : 0 < b) (hb1 : b ≤ 9223372036854775807) (h1 : -9223372036854775808 ≤ n) (h2 : n ≤ 9223372036854775807) :
    Calls Tryz.prog 5 #[.int .i64 n, .int .i64 b] w fun e w' => e = .returned (.int .i64 (n % b)) ∧ w = w' := by
  have m1 := Int.emod_nonneg n (show b ≠ 0 by omega)
  have m2 := Int.emod_lt_of_pos n hb
  by_cases h0 : 0 ≤ n
  · go_enter Tryz.func5, Tryz.ntmps5
    go_wp2
    go_ret
    exact ⟨rfl, rfl⟩
  · by_cases hm : n % b = 0
    · have t := tmod_nil n b hm
      rw [hm]
      clear hm m1 m2
      go_enter Tryz.func5, Tryz.ntmps5
      go_wp2
      go_ret
      exact ⟨rfl, rfl⟩
    · have t := tmod_up n b hb (by omega) hm
      have e : n % b - b + b = n % b := by omega
      generalize n % b = r at *
      go_enter Tryz.func5, Tryz.ntmps5
      go_wp2
      go_ret
      exact ⟨rfl, rfl⟩

def num (n : Int) (b : Nat) : Nat := (n % (b : Int)).toNat
theorem num_lt (n : Int) (b : Nat) (h : 0 < b) : num n b < b := by
  unfold num
  have m1 := Int.emod_nonneg n (show (b : Int) ≠ 0 by omega)
  have m2 := Int.emod_lt_of_pos n (show 0 < (b : Int) by omega)
  omega
theorem num_at (n c : Int) (b : Nat) (w : World) (hc : c = b) (hb : 0 < b) (hb1 : b ≤ 9223372036854775807) (h1 : -9223372036854775808 ≤ n) (h2 : n ≤ 9223372036854775807) :
    Calls Tryz.prog 5 #[.int .i64 n, .int .i64 c] w fun e w' => e = .returned (.int .i64 (num n b : Nat)) ∧ w = w' := by
  subst hc
  have m1 := Int.emod_nonneg n (show (b : Int) ≠ 0 by omega)
  refine (number_any n b w (by omega) (by omega) h1 h2).mono fun e w' ⟨he, hw⟩ => ⟨?_, hw⟩
  rw [he]; unfold num; rw [Int.toNat_of_nonneg m1]
end Go.Proofs.YtegaahcelogmlaaGreatDoor

namespace Go.Proofs.YtegaahcelogmlaaGreatDoor
open Go.RowKit
attribute [local go_sem] BtoNat x8 and8_15

end Go.Proofs.YtegaahcelogmlaaGreatDoor

namespace Go.Proofs.YtegaahcelogmlaaGreatDoor
open Go.RowKit
attribute [local go_sem] BtoNat x8 and8_15

set_option maxHeartbeats 400000 in
theorem sameBytes_any (A A' : Option Addr) (cap cap' n n' : Nat) (l m : List UInt8) (w : World) (hn : l.length = n) (hn' : m.length = n') (hl : n ≤ 1000000) (hl' : n' ≤ 1000000) (hr : Reads w A l) (hr' : Reads w A' m) :
    Calls Tryz.prog 13 #[.slice A n cap, .slice A' n' cap'] w fun e w' => e = .returned (.bool (decide (l = m))) ∧ ∃ k, w' = w.drewN k := by
  by_cases hlen : n = n'
  · subst hlen
    have HR := hide hr
    have HR' := hide hr'
    have HN := hide hn
    have HN' := hide hn'
    clear hr hr' hn hn'
    go_enter Tryz.func13, Tryz.ntmps13
    go_wp2
    go_loopw [5] (fun i wr => ∃ k : Nat, k ≤ n ∧ i = .int .i64 k ∧ l.take k = m.take k ∧ ∃ q, wr = w.drewN q) (fun i _ => n - (intOf i).toNat)
    case atStart => exact ⟨0, Nat.zero_le _, rfl, by simp, 0, rfl⟩
    case round =>
      obtain ⟨k, hk, rfl, htk, q, rfl⟩ := hrel
      have HTK := hide htk
      clear htk
      by_cases hlt : k < n
      · have hkl : k < l.length := by rw [HN.out]; exact hlt
        have hkm : k < m.length := by rw [HN'.out]; exact hlt
        rcases HR.out with rfl | ⟨b, off, rfl, hb, hc⟩
        · simp at hkl
        rcases HR'.out with rfl | ⟨b', off', rfl, hb', hc'⟩
        · simp at hkm
        have hcell := hc k hkl
        have hcell' := hc' k hkm
        have HL : Hid (l.take (k + 1) = l.take k ++ [l.getD k 0]) := by
          show _ = _; rw [List.take_succ_eq_append_getElem hkl]; simp [List.getD, hkl]
        have HM : Hid (m.take (k + 1) = m.take k ++ [m.getD k 0]) := by
          show _ = _; rw [List.take_succ_eq_append_getElem hkm]; simp [List.getD, hkm]
        clear hc hc' hkl hkm
        generalize l.getD k 0 = x at *
        generalize m.getD k 0 = y at *
        by_cases hxy : x = y
        · subst hxy
          go_wp2
          go_quiet (fail)
          go_wp2
          go_roundw
          case rel => exact ⟨k + 1, by omega, by go_num, by rw [HL.out, HM.out, HTK.out], _, rfl⟩
          case measure => simp [intOf]; omega
        · have hne : (B x == B y) = false := by
            rw [beq_eq_false_iff_ne]; intro e; exact hxy (B_inj e)
          have HD : Hid (decide (l = m) = false) := by
            show _ = _
            rw [decide_eq_false_iff_not]
            intro e
            have h2 := HM.out
            rw [← e, HL.out, e] at h2
            have h3 := List.append_cancel_left h2
            simp at h3
            exact hxy h3
          clear hxy
          go_wp2
          go_quiet (fail)
          go_wp2
          go_ret
          exact ⟨by rw [HD.out]; rfl, _, rfl⟩
      · have HE : Hid (decide (l = m) = true) := by
          show _ = _
          rw [decide_eq_true_iff]
          have h1 := HTK.out
          have hkn : k = n := by omega
          rw [hkn, ← HN.out, List.take_length, HN.out, ← HN'.out, List.take_length] at h1
          exact h1
        go_wp2
        go_ret
        exact ⟨by rw [HE.out]; rfl, q, rfl⟩
  · have HD : Hid (decide (l = m) = false) := by
      show _ = _
      rw [decide_eq_false_iff_not]
      intro e; apply hlen; rw [← hn, ← hn', e]
    have hne : ((n : Int) == (n' : Int)) = false := by rw [beq_eq_false_iff_ne]; omega
    have hne2 : ((n : Int) != (n' : Int)) = true := by rw [bne_iff_ne]; omega
    clear hr hr' hn hn' hlen
    go_enter Tryz.func13, Tryz.ntmps13
    go_wp2
    go_ret
    exact ⟨by rw [HD.out]; rfl, 0, rfl⟩
end Go.Proofs.YtegaahcelogmlaaGreatDoor
