/-
  Words for the walks: bytes as the numbers that they are, slices of bytes as memory has them. Nothing of any program is named here.
-/
import Derived.WalkKit
import Derived.ProofKit
import Derived.Below
import Derived.Deep.Draws
import Derived.Laws.BitsAllLaws
namespace Go.Proofs.YtoaioijgmbhhnaaDoor
open Go.RowKit

theorem hide {p : Prop} (h : p) : Hid p := h

/-- A byte as the number that it is. -/
def B (x : UInt8) : Int := (x.toNat : Int)
theorem B_lo (c : UInt8) : 0 ≤ B c := by unfold B; omega
theorem B_hi (c : UInt8) : B c < 256 := by unfold B; have := c.toNat_lt; omega
theorem B_inj {a b : UInt8} (h : B a = B b) : a = b := by unfold B at h; exact UInt8.toNat_inj.1 (by omega)
theorem B_of (n : Int) (h : 0 ≤ n) (h1 : n < 256) : ∃ c, n = B c := ⟨UInt8.ofNat n.toNat, by unfold B; rw [UInt8.toNat_ofNat']; omega⟩

theorem x8 (a b : UInt8) : bits .xor .u8 (B a) (B b) = B (a ^^^ b) := by
  unfold B
  rw [u8_xor_nat _ _ a.toNat_lt b.toNat_lt]; simp
theorem and8_15 (a : UInt8) : bits .and .u8 (B a) 15 = B (a &&& 15) := by
  unfold B
  rw [show (15 : Int) = ((15 : Nat) : Int) from rfl, u8_and_nat _ _ a.toNat_lt (by omega)]; simp
/-- A byte as an index. -/
def idx (c : UInt8) : Nat := c.toNat
theorem BtoNat (c : UInt8) : (B c).toNat = idx c := by unfold B idx; simp
theorem ofInt_i64 (a : Nat) (ha : a < 9223372036854775808) : (BitVec.ofInt 64 (a : Int)).toNat = a := by
  rw [BitVec.ofInt_natCast, BitVec.toNat_ofNat]; exact Nat.mod_eq_of_lt (by omega)
theorem i64_and1 (a : Nat) (ha : a < 9223372036854775808) : bits .and .i64 (a : Int) 1 = ((a % 2 : Nat) : Int) := by
  show IntKind.i64.wrap ((BitVec.ofInt 64 (a : Int) &&& BitVec.ofInt 64 (1 : Int)).toNat : Int) = _
  rw [BitVec.toNat_and, ofInt_i64 a ha, show (BitVec.ofInt 64 (1 : Int)).toNat = 1 from by decide, nat_mask1, IntKind.wrap_i64]
  omega

/-- A slice that reads as bytes: nil, empty or not. -/
def Reads (w : World) (A : Option Addr) (l : List UInt8) : Prop :=
  l = [] ∨ ∃ b off, A = some ⟨b, off, none⟩ ∧ b < w.heap.size ∧ ∀ k, k < l.length → w.cell? ⟨b, off + k, none⟩ = some (.int .u8 (B (l.getD k 0)))

/-- One text of a list of texts: where it lies, its room, its bytes. -/
structure Part where
  a : Option Addr
  cap : Nat
  l : List UInt8
def Part.val (p : Part) : Value := .slice p.a p.l.length p.cap
def flat (ps : List Part) : List UInt8 := ps.flatMap (·.l)
/-- A slice that reads as texts. -/
def ReadsAll (w : World) (A : Option Addr) (ps : List Part) : Prop :=
  ps = [] ∨ ∃ b off, A = some ⟨b, off, none⟩ ∧ b < w.heap.size ∧ ∀ k (h : k < ps.length), w.cell? ⟨b, off + k, none⟩ = some (ps[k].val) ∧ ps[k].l.length ≤ 9223372036854775807 ∧ Reads w ps[k].a ps[k].l
theorem Reads.drewN {w : World} {A : Option Addr} {l : List UInt8} (h : Reads w A l) (n : Nat) : Reads (w.drewN n) A l := h

theorem below_drewN {B : Nat} {a w : World} (h : Below B a w) (n : Nat) : Below B a (w.drewN n) := ⟨h.os, h.tape, h.output, h.size, h.block⟩
theorem Reads.alloc {w : World} {A : Option Addr} {l : List UInt8} (h : Reads w A l) (o : Obj) : Reads (w.alloc o) A l := by
  rcases h with h | ⟨b, off, e, hb, hc⟩
  · exact .inl h
  · exact .inr ⟨b, off, e, by simp; omega, fun k hk => (World.cell?_alloc_lt w o ⟨b, off + k, none⟩ hb).trans (hc k hk)⟩
/-- A new block of bytes reads as them. -/
theorem Reads.new (w : World) (l : List UInt8) (e : TypeId) (fr : Nat × Nat) : Reads (w.alloc (.cells (l.map fun x => Value.int .u8 (B x)).toArray e fr)) (some ⟨w.heap.size, 0, none⟩) l :=
  .inr ⟨_, _, rfl, by simp, fun k hk => by
    rw [World.cell?_alloc_mark]
    simp [hk]⟩

theorem readsAll_slice (w : World) (a : Option Addr) (n cap g : Nat) (l : List UInt8) (e : TypeId) (hn : l.length = n) (hg : g = w.heap.size) (h : Reads w a l) (hl : n ≤ 9223372036854775807) :
    ReadsAll (w.alloc (.cells #[.slice a n cap] e)) (some ⟨g, 0, none⟩) [⟨a, cap, l⟩] := by
  subst hn hg
  refine .inr ⟨_, _, rfl, by simp, fun k hk => ?_⟩
  have hk0 : k = 0 := by simpa using hk
  subst hk0
  refine ⟨?_, hl, h.alloc _⟩
  rw [World.cell?_alloc_mark]; simp [Part.val]

theorem bdrewN {B : Nat} {a w : World} (h : Below B a w) (n : Nat) : Below B a (w.drewN n) := ⟨h.os, h.tape, h.output, h.size, h.block⟩
theorem balloc {a w : World} (h : Below a.heap.size a w) (o : Obj) : Below a.heap.size a (w.alloc o) := h.alloc h.size o
theorem hideE {p : Prop} (h : p) : Hid p := h

theorem below_alloc {a w : World} (h : Below a.heap.size a w) (o : Obj) : Below a.heap.size a (w.alloc o) := h.alloc h.size o
end Go.Proofs.YtoaioijgmbhhnaaDoor
