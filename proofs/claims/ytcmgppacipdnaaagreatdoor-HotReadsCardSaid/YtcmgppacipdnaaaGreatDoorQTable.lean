/-
  Plain facts on the sums of Castagnoli's polynomial, over bit vectors: nothing of any program is named here.
  Plain facts: a byte by the two short tables is a byte bit by bit; products; joins. Nothing of any program is named here.
  Words for the walks: bytes as the numbers that they are, slices of bytes as memory has them. Nothing of any program is named here.
  Words for the walks: bytes and 32 bit words as the numbers that they are, and what the operations on them come to. Nothing of any program is named here.
  The walk through package crc's More.
  Bytes in memory of the call's own: made, copied into, appended to, written; and read again. Words and laws for the walks, over the kit's laws on rows.
  The statements' own helper Number.
  The statements' own copy of bytes.
  The statements' own equality of bytes.
  The walks through package crc's Of, Number and the chapter's example.
  First.
  The two tables of sums, where memory of the call's own is made.
  What every frame of this program asks.
  Pieces of slices of bytes.
  From a row's reading of a slice of bytes to what the walks are told of it.
  What is owned, as an argument; what stays of an argument; its pieces.
  A statement whose order is open, in which memory is made: each operation is shown once, from what its own operands are known to be; whatever order is drawn, at the end all that was shown holds. (What is known of a slot must outlive new blocks and draws.) Nothing of any program is named here.
  Errors as plain data: what the statements' own helpers (Is, Same, Fault, sentinel) answer at nil and at the package's errors as they are laid.
  The statements' own helper 'Is': nil is Fine's number alone, an error of the package its own number alone.
-/
import Derived.Laws.BitsAllLaws
import Derived.WalkKit
import Derived.ProofKit
import Derived.Below
import Derived.Deep.Draws
import Derived.Test.YtcmgppacipdnaaaGreatDoorRows
import Derived.BigQuiet
import Derived.Deep.QuietTactic
import Derived.Outline
import Derived.Deep.LoopGhost
import Derived.LoopTactic
import Derived.Maps.AppendAt
import Derived.Laws.CopyOwn
import Derived.OwnWalk
import Derived.RegionTactic
import Derived.Lib.SlBytesConst
import Derived.LaidMore
import Derived.OpenShut
import Derived.ChangeOld
import Derived.Stop.Joined
import Derived.Orders
import Derived.Tactics
import Derived.LaidEqlPtr
import Derived.Handy
namespace Go.Proofs.YtcmgppacipdnaaaGreatDoor.Crc

/-- The polynomial, turned round. -/
def poly : BitVec 32 := 0x82f63b78#32
/-- One bit further on. -/
def st (c : BitVec 32) : BitVec 32 := (c >>> 1) ^^^ (if c.getLsbD 0 then poly else 0#32)
/-- So many bits further on. -/
def sts : Nat → BitVec 32 → BitVec 32
  | 0, c => c
  | n + 1, c => sts n (st c)
/-- One byte more. -/
def one (c : BitVec 32) (x : UInt8) : BitVec 32 := sts 8 (c ^^^ x.toBitVec.setWidth 32)
/-- Many bytes more. -/
def feed (c : BitVec 32) (l : List UInt8) : BitVec 32 := l.foldl one c
/-- The sum of a text. -/
def sum (l : List UInt8) : BitVec 32 := ~~~(feed (~~~0#32) l)
/-- The sum gone on with. -/
def more (s : BitVec 32) (l : List UInt8) : BitVec 32 := ~~~(feed (~~~s) l)

theorem sts_add (m n : Nat) (c : BitVec 32) : sts (m + n) c = sts n (sts m c) := by
  induction m generalizing c with
  | zero => simp [sts]
  | succ m ih => rw [Nat.succ_add]; simp only [sts]; exact ih (st c)

theorem st_xor (a b : BitVec 32) : st (a ^^^ b) = st a ^^^ st b := by
  have hs : (a ^^^ b) >>> 1 = (a >>> 1) ^^^ (b >>> 1) := BitVec.ushiftRight_xor_distrib a b 1
  unfold st
  rw [BitVec.getLsbD_xor, hs]
  rcases Bool.eq_false_or_eq_true (a.getLsbD 0) with ha | ha <;> rcases Bool.eq_false_or_eq_true (b.getLsbD 0) with hb | hb <;> simp only [ha, hb] <;> simp
  · rw [show a >>> 1 ^^^ poly ^^^ (b >>> 1 ^^^ poly) = a >>> 1 ^^^ b >>> 1 ^^^ (poly ^^^ poly) by ac_rfl]; simp
  · ac_rfl
  · ac_rfl

theorem sts_xor (n : Nat) (a b : BitVec 32) : sts n (a ^^^ b) = sts n a ^^^ sts n b := by
  induction n generalizing a b with
  | zero => rfl
  | succ n ih => simp only [sts, st_xor]; exact ih _ _

theorem feed_append (c : BitVec 32) (l m : List UInt8) : feed c (l ++ m) = feed (feed c l) m := by simp [feed, List.foldl_append]
theorem feed_snoc (c : BitVec 32) (l : List UInt8) (x : UInt8) : feed c (l ++ [x]) = one (feed c l) x := by simp [feed, List.foldl_append]

theorem more_sum (l m : List UInt8) : more (sum l) m = sum (l ++ m) := by
  unfold more sum
  rw [BitVec.not_not, feed_append]
theorem more_zero (l : List UInt8) : more 0#32 l = sum l := rfl
theorem sum_nil : sum [] = 0#32 := by decide

end Go.Proofs.YtcmgppacipdnaaaGreatDoor.Crc

namespace Go.Proofs.YtcmgppacipdnaaaGreatDoor.Crc

def lowT : List Nat := [0, 4067132163, 3778769143, 324072436, 3348797215, 904991772, 648144872, 3570033899, 2329499855, 2024987596, 1809983544, 2575936315, 1296289744, 3207089363, 2893594407, 1578318884]
def highT : List Nat := [0, 274646895, 549293790, 820201905, 1098587580, 1361435347, 1640403810, 1905808397, 2197175160, 2460548119, 2722870694, 2987750089, 3280807620, 3553878443, 3811616794, 4084100981]
def low (y : UInt8) : BitVec 32 := BitVec.ofNat 32 (lowT.getD (y &&& 15).toNat 0)
def high (y : UInt8) : BitVec 32 := BitVec.ofNat 32 (highT.getD (y >>> 4).toNat 0)
/-- The lowest byte. -/
def u8 (c : BitVec 32) : UInt8 := UInt8.ofBitVec (c.setWidth 8)

theorem sts_shift (n : Nat) (v : BitVec 32) (h : ∀ i, i < n → v.getLsbD i = false) : sts n v = v >>> n := by
  induction n generalizing v with
  | zero => simp [sts]
  | succ n ih =>
    have h0 := h 0 (by omega)
    have e : st v = v >>> 1 := by unfold st; rw [h0]; simp
    simp only [sts]
    rw [e, ih (v >>> 1) (fun i hi => by rw [BitVec.getLsbD_ushiftRight]; exact h _ (by omega)), ← BitVec.shiftRight_add, Nat.add_comm]

theorem byte_tab : ∀ n : Fin 256, sts 8 ((BitVec.ofNat 8 n.val).setWidth 32) = BitVec.ofNat 32 (lowT.getD (n.val % 16) 0) ^^^ BitVec.ofNat 32 (highT.getD (n.val / 16) 0) := by decide +kernel

theorem and15 (y : UInt8) : (y &&& 15).toNat = y.toNat % 16 := by
  rw [UInt8.toNat_and]; exact Nat.and_two_pow_sub_one_eq_mod y.toNat 4
theorem shr4 (y : UInt8) : (y >>> 4).toNat = y.toNat / 16 := by
  rw [UInt8.toNat_shiftRight]; simp [Nat.shiftRight_eq_div_pow]

theorem byte_tab' (y : UInt8) : sts 8 (y.toBitVec.setWidth 32) = low y ^^^ high y := by
  have h := byte_tab ⟨y.toNat, y.toNat_lt⟩
  unfold low high
  rw [and15, shr4]
  rw [← h]
  congr 2
  apply BitVec.eq_of_toNat_eq
  simp

/-- The step by the tables. -/
def tab (c : BitVec 32) (x : UInt8) : BitVec 32 := (c >>> 8 ^^^ low (x ^^^ u8 c)) ^^^ high (x ^^^ u8 c)

theorem tab_eq (c : BitVec 32) (x : UInt8) : tab c x = one c x := by
  unfold tab one
  have hs : c ^^^ x.toBitVec.setWidth 32 = ((c >>> 8) <<< 8) ^^^ ((x ^^^ u8 c).toBitVec.setWidth 32) := by
    apply BitVec.eq_of_getLsbD_eq
    intro i hi
    simp only [BitVec.getLsbD_xor, BitVec.getLsbD_shiftLeft, BitVec.getLsbD_ushiftRight, BitVec.getLsbD_setWidth, UInt8.toBitVec_xor, u8]
    by_cases h8 : i < 8
    · simp [h8, hi, Bool.xor_comm]
    · have : 8 + (i - 8) = i := by omega
      simp [h8, hi, this, BitVec.getLsbD_of_ge x.toBitVec i (by omega)]
  rw [hs, sts_xor, byte_tab']
  rw [sts_shift 8 _ (fun i hi => by rw [BitVec.getLsbD_shiftLeft]; simp [hi])]
  have hb : (c >>> 8) <<< 8 >>> 8 = c >>> 8 := by
    apply BitVec.eq_of_getLsbD_eq
    intro i hi
    simp only [BitVec.getLsbD_ushiftRight, BitVec.getLsbD_shiftLeft]
    by_cases h : 8 + i < 32
    · simp [h]
    · simp [h, BitVec.getLsbD_of_ge c (8 + i) (by omega)]
  rw [hb, BitVec.xor_assoc]

/-! ### Products: 'a' times 'b', the rest of it -/

/-- Whatever is sealed has one sum. -/
def little (c : BitVec 32) : List UInt8 := [u8 c, u8 (c >>> 8), u8 (c >>> 16), u8 (c >>> 24)]
end Go.Proofs.YtcmgppacipdnaaaGreatDoor.Crc

namespace Go.Proofs.YtcmgppacipdnaaaGreatDoor
open Go.RowKit

theorem hide {p : Prop} (h : p) : Hid p := h

/-- A byte as the number that it is. -/
def B (x : UInt8) : Int := (x.toNat : Int)
theorem B_lo (c : UInt8) : 0 ≤ B c := by unfold B; omega
theorem B_hi (c : UInt8) : B c < 256 := by unfold B; have := c.toNat_lt; omega
theorem B_inj {a b : UInt8} (h : B a = B b) : a = b := by unfold B at h; exact UInt8.toNat_inj.1 (by omega)
theorem x8 (a b : UInt8) : bits .xor .u8 (B a) (B b) = B (a ^^^ b) := by
  unfold B
  rw [u8_xor_nat _ _ a.toNat_lt b.toNat_lt]; simp
theorem and8_15 (a : UInt8) : bits .and .u8 (B a) 15 = B (a &&& 15) := by
  unfold B
  rw [show (15 : Int) = ((15 : Nat) : Int) from rfl, u8_and_nat _ _ a.toNat_lt (by omega)]; simp
/-- A byte as an index. -/
def idx (c : UInt8) : Nat := c.toNat
theorem BtoNat (c : UInt8) : (B c).toNat = idx c := by unfold B idx; simp
theorem ofInt_i64 (a : Nat) (ha : a < 9223372036854775808) : (BitVec.ofInt 64 (a : Int)).toNat = a := by
  rw [BitVec.ofInt_natCast, BitVec.toNat_ofNat]; exact Nat.mod_eq_of_lt (by omega)
/-- A slice that reads as bytes: nil, empty or not. -/
def Reads (w : World) (A : Option Addr) (l : List UInt8) : Prop :=
  l = [] ∨ ∃ b off, A = some ⟨b, off, none⟩ ∧ b < w.heap.size ∧ ∀ k, k < l.length → w.cell? ⟨b, off + k, none⟩ = some (.int .u8 (B (l.getD k 0)))

/-- One text of a list of texts: where it lies, its room, its bytes. -/
structure Part where
  a : Option Addr
  cap : Nat
  l : List UInt8
def Part.val (p : Part) : Value := .slice p.a p.l.length p.cap
def flat (ps : List Part) : List UInt8 := ps.flatMap (·.l)
/-- A slice that reads as texts. -/
def ReadsAll (w : World) (A : Option Addr) (ps : List Part) : Prop :=
  ps = [] ∨ ∃ b off, A = some ⟨b, off, none⟩ ∧ b < w.heap.size ∧ ∀ k (h : k < ps.length), w.cell? ⟨b, off + k, none⟩ = some (ps[k].val) ∧ ps[k].l.length ≤ 9223372036854775807 ∧ Reads w ps[k].a ps[k].l
theorem Reads.drewN {w : World} {A : Option Addr} {l : List UInt8} (h : Reads w A l) (n : Nat) : Reads (w.drewN n) A l := h

theorem below_drewN {B : Nat} {a w : World} (h : Below B a w) (n : Nat) : Below B a (w.drewN n) := ⟨h.os, h.tape, h.output, h.size, h.block⟩
theorem Reads.alloc {w : World} {A : Option Addr} {l : List UInt8} (h : Reads w A l) (o : Obj) : Reads (w.alloc o) A l := by
  rcases h with h | ⟨b, off, e, hb, hc⟩
  · exact .inl h
  · exact .inr ⟨b, off, e, by simp; omega, fun k hk => (World.cell?_alloc_lt w o ⟨b, off + k, none⟩ hb).trans (hc k hk)⟩
/-- A new block of bytes reads as them. -/
theorem Reads.new (w : World) (l : List UInt8) (e : TypeId) (fr : Nat × Nat) : Reads (w.alloc (.cells (l.map fun x => Value.int .u8 (B x)).toArray e fr)) (some ⟨w.heap.size, 0, none⟩) l :=
  .inr ⟨_, _, rfl, by simp, fun k hk => by
    rw [World.cell?_alloc_mark]
    simp [hk]⟩

theorem readsAll_slice (w : World) (a : Option Addr) (n cap g : Nat) (l : List UInt8) (e : TypeId) (hn : l.length = n) (hg : g = w.heap.size) (h : Reads w a l) (hl : n ≤ 9223372036854775807) :
    ReadsAll (w.alloc (.cells #[.slice a n cap] e)) (some ⟨g, 0, none⟩) [⟨a, cap, l⟩] := by
  subst hn hg
  refine .inr ⟨_, _, rfl, by simp, fun k hk => ?_⟩
  have hk0 : k = 0 := by simpa using hk
  subst hk0
  refine ⟨?_, hl, h.alloc _⟩
  rw [World.cell?_alloc_mark]; simp [Part.val]

theorem balloc {a w : World} (h : Below a.heap.size a w) (o : Obj) : Below a.heap.size a (w.alloc o) := h.alloc h.size o
theorem hideE {p : Prop} (h : p) : Hid p := h

end Go.Proofs.YtcmgppacipdnaaaGreatDoor

namespace Go.Proofs.YtcmgppacipdnaaaGreatDoor
open Go.RowKit Crc

/-- A word of 32 bits as the number that it is. -/
def U (c : BitVec 32) : Int := (c.toNat : Int)
theorem x32 (a b : BitVec 32) : bits .xor .u32 (U a) (U b) = U (a ^^^ b) := by
  unfold U
  rw [u32_xor_nat _ _ a.isLt b.isLt]; simp
theorem n32 (a : BitVec 32) : bits .xor .u32 IntKind.u32.max (U a) = U (~~~a) := by
  have := x32 (~~~0#32) a
  rw [show U (~~~0#32 : BitVec 32) = IntKind.u32.max from by decide] at this
  rw [this]; congr 1
theorem mod256 (c : BitVec 32) : U c % (256 : Int) = B (u8 c) := by
  unfold U B u8
  simp
theorem wrap8 (c : BitVec 32) : IntKind.u8.wrap (U c) = B (u8 c) := by
  rw [IntKind.wrap_u8, mod256]
theorem div256 (c : BitVec 32) : U c / (256 : Int) = U (c >>> 8) := by
  unfold U
  rw [BitVec.toNat_ushiftRight, Nat.shiftRight_eq_div_pow]; simp
theorem div16 (c : UInt8) : B c / (16 : Int) = B (c >>> 4) := by
  unfold B
  rw [shr4]; simp
theorem xs32 (a b : BitVec 32) : bits .xor .u32 (U a / (256 : Int)) (U b) = U (a >>> 8 ^^^ b) := by rw [div256, x32]
theorem Bd16toNat (c : UInt8) : (B c / (16 : Int)).toNat = idx (c >>> 4) := by rw [div16, BtoNat]
theorem Bd16_lo (c : UInt8) : 0 ≤ B c / 16 := by have := B_lo c; omega
theorem Bd16_hi (c : UInt8) : B c / 16 < 16 := by have := B_hi c; omega
theorem B15 (y : UInt8) : B (y &&& 15) < 16 := by unfold B; rw [and15]; omega
theorem B4 (y : UInt8) : B (y >>> 4) < 16 := by unfold B; rw [shr4]; have := y.toNat_lt; omega

theorem U_zero : U 0#32 = 0 := by decide
theorem and_low (a : BitVec 32) : bits .and .u32 (U a) 1 = if a.getLsbD 0 then 1 else 0 := by
  unfold U
  rw [show (1 : Int) = ((1 : Nat) : Int) from rfl, u32_and_nat _ _ a.isLt (by omega)]
  rw [nat_mask1, BitVec.getLsbD, Nat.testBit_eq_decide_div_mod_eq]
  rcases Nat.mod_two_eq_zero_or_one a.toNat with e | e <;> simp [e]
theorem div2 (c : BitVec 32) : U c / (2 : Int) = U (c >>> 1) := by
  unfold U
  rw [BitVec.toNat_ushiftRight, Nat.shiftRight_eq_div_pow]; simp
theorem mul2 (c : BitVec 32) : U c * (2 : Int) % (4294967296 : Int) = U (c <<< 1) := by
  unfold U
  rw [BitVec.toNat_shiftLeft, Nat.shiftLeft_eq]; simp
theorem st_one (c : BitVec 32) (h : c.getLsbD 0 = true) : bits .xor .u32 (U c / (2 : Int)) 2197175160 = U (st c) := by
  rw [div2, show (2197175160 : Int) = U poly from by decide, x32]
  unfold st; rw [h]; simp
theorem st_nil' (c : BitVec 32) (h : c.getLsbD 0 = false) : U c / (2 : Int) = U (st c) := by
  rw [div2]
  unfold st; rw [h]; simp

/-- A byte as a word. -/
def w8 (x : UInt8) : BitVec 32 := x.toBitVec.setWidth 32
theorem cv8 (x : UInt8) : IntKind.u32.wrap (B x) = U (w8 x) := by
  have h1 := B_lo x
  have h2 := B_hi x
  rw [IntKind.wrap_u32, Int.emod_eq_of_lt h1 (by omega)]
  unfold B U w8
  simp
end Go.Proofs.YtcmgppacipdnaaaGreatDoor

namespace Go.Proofs.YtcmgppacipdnaaaGreatDoor
open Go.RowKit Crc

attribute [local go_sem] BtoNat x32 n32 x8 and8_15 mod256 wrap8 xs32 Bd16toNat

/-
  The walk through package crc's More.
-/
structure Tabs (w : World) : Prop where
  lo : ∀ y : UInt8, w.cell? ⟨19, idx (y &&& 15), none⟩ = some (.int .u32 (U (low y)))
  hi : ∀ y : UInt8, w.cell? ⟨20, idx (y >>> 4), none⟩ = some (.int .u32 (U (high y)))

theorem cell_lt {w : World} {b o : Nat} {v : Value} (h : w.cell? ⟨b, o, none⟩ = some v) : b < w.heap.size := by
  rcases Nat.lt_or_ge b w.heap.size with h1 | h1
  · exact h1
  · exfalso
    simp [World.cell?, Array.getElem?_eq_none h1] at h
theorem Tabs.lt {w : World} (h : Tabs w) : 19 < w.heap.size ∧ 20 < w.heap.size := ⟨cell_lt (h.lo 0), cell_lt (h.hi 0)⟩
theorem take_snoc (l : List UInt8) (k : Nat) (h : k < l.length) : l.take (k + 1) = l.take k ++ [l[k]] := List.take_succ_eq_append_getElem h

set_option maxHeartbeats 400000 in
theorem more_any (A : Option Addr) (cap : Nat) (l : List UInt8) (s : BitVec 32) (w : World)
   (hl : l.length ≤ 9223372036854775807) (hr : Reads w A l) (ht : Tabs w) :
    Calls Tryz.prog 175 #[.int .u32 (U s), .slice A l.length cap] w fun e w' => e = .returned (.int .u32 (U (more s l))) ∧ ∃ n, w' = w.drewN n := by
  have HR := hide hr
  have HT := hide ht
  clear hr ht
  go_enter Tryz.func175, Tryz.ntmps175
  go_wp2
  go_loopw [5, 12] (fun r i wr => ∃ k : Nat, k ≤ l.length ∧ i = .int .i64 k ∧ r = .int .u32 (U (feed (~~~s) (l.take k))) ∧ ∃ n, wr = w.drewN n) (fun _ i _ => l.length - (intOf i).toNat)
  case atStart => exact ⟨0, Nat.zero_le _, rfl, rfl, 0, rfl⟩
  case round =>
    obtain ⟨k, hk, rfl, rfl, n, rfl⟩ := hrel
    by_cases hlt : k < l.length
    · have hs : U (feed (~~~s) (l.take (k + 1))) = U (tab (feed (~~~s) (l.take k)) l[k]) := by rw [take_snoc l k hlt, feed_snoc, tab_eq]
      have HS := hide hs
      clear hs
      generalize feed (~~~s) (l.take k) = C at *
      rcases HR.out with rfl | ⟨b, off, rfl, hb, hc⟩
      · simp at hlt
      have hcell := hc k hlt
      clear hc
      have hlo := HT.out.lo (l[k] ^^^ u8 C)
      have hhi := HT.out.hi (l[k] ^^^ u8 C)
      have b1 := B_lo ((l[k] ^^^ u8 C) &&& 15)
      have b2 := B15 (l[k] ^^^ u8 C)
      have b3 := Bd16_lo (l[k] ^^^ u8 C)
      have b4 := Bd16_hi (l[k] ^^^ u8 C)
      go_wp2
      go_quiet (fail)
      go_wp2
      go_roundw
      case rel => exact ⟨k + 1, by omega, by go_num, by rw [HS.out]; rfl, _, rfl⟩
      case measure => simp [intOf]; omega
    · have : k = l.length := by omega
      subst this
      go_wp2
      go_ret
      exact ⟨by rw [List.take_length]; rfl, n, rfl⟩
end Go.Proofs.YtcmgppacipdnaaaGreatDoor

namespace Go.Proofs.YtcmgppacipdnaaaGreatDoor
open Go.RowKit

def byteV (x : UInt8) : Value := .int .u8 (B x)
def cells (l : List UInt8) : List Value := l.map byteV
theorem cells_len (l : List UInt8) : (cells l).length = l.length := by simp [cells]
theorem cells_one (l : List UInt8) : ∀ u ∈ cells l, u.oneCell' = true := by
  intro u hu
  obtain ⟨x, _, rfl⟩ := List.mem_map.1 hu
  rfl
theorem byte_info : (Tryz.prog.info? 5).map (fun i => (i.zero, i.size, i.bytes)) = some (some (.int .u8 0), 1, 1) := by kernel_rfl
theorem byte_size : (Tryz.prog.info? 5).map (·.size) = some 1 := by kernel_rfl

/-- A slice value that the call owns: its bytes. -/
def Own (w : World) (base : Nat) (v : Value) (l : List UInt8) : Prop := w.ownsRow base 5 1 v l.length (cells l)

theorem Own.nil (w : World) (base : Nat) : Own w base (.slice none 0 0) [] := World.ownsRow_nil w base _ 1
theorem Own.alloc {w : World} {base : Nat} {v : Value} {l : List UInt8} (h : Own w base v l) (o : Obj) : Own (w.alloc o) base v l := World.ownsRow.alloc h o
theorem Own.drewN {w : World} {base : Nat} {v : Value} {l : List UInt8} (h : Own w base v l) (n : Nat) : Own (w.drewN n) base v l := h
theorem Own.lt {w : World} {base : Nat} {v : Value} {l : List UInt8} (h : Own w base v l) : ∀ k, v.ownBlock = some k → base ≤ k ∧ k < w.heap.size := World.ownsRow.lt h
/-- It stays where all below a block beyond it stays. -/
theorem Own.below {w w' : World} {base C : Nat} {v : Value} {l : List UInt8} (h : Own w base v l) (hb : Below C w w') (hC : w.heap.size ≤ C) : Own w' base v l := by
  obtain ⟨h1, h2⟩ := h
  refine ⟨h1, ?_⟩
  rcases h2 with h2 | ⟨g, cap, cur, hv, hg, hh, r⟩
  · exact .inl h2
  · have hlt : g < w.heap.size := by
      rcases Nat.lt_or_ge g w.heap.size with h | h
      · exact h
      · rw [Array.getElem?_eq_none h] at hh; cases hh
    exact .inr ⟨g, cap, cur, hv, hg, (hb.block g (by omega)).trans hh, r⟩
theorem Own.mono {w : World} {base base' : Nat} {v : Value} {l : List UInt8} (h : Own w base v l) (hb : base' ≤ base) : Own w base' v l := by
  obtain ⟨h1, h2⟩ := h
  refine ⟨h1, ?_⟩
  rcases h2 with h2 | ⟨g, cap, cur, hv, hg, r⟩
  · exact .inl h2
  · exact .inr ⟨g, cap, cur, hv, by omega, r⟩
/-- What is owned is a slice that reads as its bytes. -/
theorem Own.reads {w : World} {base : Nat} {v : Value} {l : List UInt8} (h : Own w base v l) : ∃ A c, v = .slice A l.length c ∧ Reads w A l ∧ (A = none → l = [] ∧ c = 0) := by
  obtain ⟨_, h2⟩ := h
  rcases h2 with ⟨rfl, h0⟩ | ⟨g, cap, cur, rfl, hg, hh, hn, hm, hs, ht⟩
  · obtain rfl := List.eq_nil_of_length_eq_zero h0
    exact ⟨none, 0, rfl, .inl rfl, fun _ => ⟨rfl, rfl⟩⟩
  · refine ⟨_, _, rfl, .inr ⟨g, 0, rfl, ?_, fun k hk => ?_⟩, fun e => by cases e⟩
    · rcases Nat.lt_or_ge g w.heap.size with h | h
      · exact h
      · rw [Array.getElem?_eq_none h] at hh; cases hh
    · have e : cur.toList[k]? = some (byteV l[k]) := by
        have e2 : (cur.toList.take (l.length * 1))[k]? = some (byteV l[k]) := by rw [ht]; simp [cells, hk]
        rw [List.getElem?_take] at e2
        rwa [if_pos (by omega)] at e2
      have e3 : cur[k]? = some (byteV l[k]) := by simpa using e
      simp only [World.cell?, hh, Nat.zero_add]
      rw [e3]
      simp [byteV, List.getD, hk]

theorem Reads.below {w w' : World} {C : Nat} {A : Option Addr} {l : List UInt8} (h : Reads w A l) (hb : Below C w w') (hC : w.heap.size ≤ C) : Reads w' A l := by
  rcases h with h | ⟨b, off, e, hlt, hc⟩
  · exact .inl h
  · exact .inr ⟨b, off, e, by have := hb.size; omega, fun k hk => (hb.cell (p := ⟨b, off + k, none⟩) (by show b < C; omega)).trans (hc k hk)⟩
/-- The new cells of a slice that reads as bytes. -/
theorem Reads.news {w : World} {ad : Addr} {l : List UInt8} (h : Reads w (some ad) l) : ∀ j u, (cells l)[j]? = some u → w.cell? (ad.add j) = some u := by
  intro j u hu
  rcases h with rfl | ⟨b, off, e, hb, hc⟩
  · simp [cells] at hu
  · obtain rfl := Option.some.inj e
    have hj : j < l.length := by
      have := (List.getElem?_eq_some_iff.1 hu).1
      rwa [cells_len] at this
    rw [show (⟨b, off, none⟩ : Addr).add j = ⟨b, off + j, none⟩ from by rw [Addr.add_lit]]
    rw [hc j hj]
    simpa [cells, hj, byteV, List.getD] using hu

/-- A new block whose cells are bytes reads as them. -/
theorem Reads.made (w : World) (l : List UInt8) (cs : Array Value) (e : TypeId) (fr : Nat × Nat) (g : Nat) (hg : g = w.heap.size) (hc : (cells l).toArray = cs) : Reads (w.alloc (.cells cs e fr)) (some ⟨g, 0, none⟩) l := by
  subst hg hc
  exact Reads.new w l e fr
section
variable {w : World} {ops : Array Oper} {rest : List Oper} {o : Oper} {a : Act} {Q : Exit → Act → World → Prop}

/-- append(s, x...), s the call's own, x whatever reads as bytes. -/
theorem wpList_app (hgd : o.guard = none) (s x : Operand) (ho : o.op = .call { callee := .builtin .append, args := #[s, x], argTypes := #[67, 67] })
    (base : Nat) (v : Value) (l m : List UInt8) (hs : a.eval s = v) (hown : Own w base v l) (A : Option Addr) (n c : Nat) (hx : a.eval x = .slice A n c) (hn : m.length = n) (hr : Reads w A m)
    (hlen : l.length + n ≤ 1073741824) (hbase : base ≤ w.heap.size)
    (h : ∀ v' w', Own w' base v' (l ++ m) → w.grownBy w' v.ownBlock → (v'.ownBlock = v.ownBlock ∨ v'.ownBlock = some w.heap.size) → wpList Tryz.prog ops Q rest (a.put o.dst v') w') : wpList Tryz.prog ops Q (o :: rest) a w := by
  subst hn
  obtain ⟨i, hi, hz, hs1, hby⟩ := info_parts byte_info
  refine wpList_plain hgd fun K hK => ?_
  have key : ∃ v' w', (Builtin.append_ #[67, 67] o.type #[v, .slice A m.length c]).run Tryz.prog w = .ok v' w' ∧ Own w' base v' (l ++ m) ∧ w.grownBy w' v.ownBlock ∧ (v'.ownBlock = v.ownBlock ∨ v'.ownBlock = some w.heap.size) := by
    cases A with
    | none =>
      have h0 : m = [] := by
        rcases hr with h | ⟨_, _, h, _⟩
        · exact h
        · cases h
      subst h0
      refine ⟨v, w, ?_, by simpa using hown, World.grownBy.refl w _, .inl rfl⟩
      have u := Tryz.underlying67
      rcases hown.2 with ⟨rfl, _⟩ | ⟨g, cap, cur, rfl, _, _, hnc, _⟩
      · simp [Builtin.append_, run_underlying u, sizeOf, typeInfo, hi, Builtin.lenOf, Builtin.firstCells]
      · simp [Builtin.append_, run_underlying u, sizeOf, typeInfo, hi, Builtin.lenOf, Builtin.firstCells, hnc, storeCells]
    | some ad =>
      obtain ⟨v', w', hrun, h2, h3, _, h5⟩ := run_append_own_at (P := Tryz.prog) w base 67 o.type 5 i _ 1 1 Tryz.underlying67 hi hz hs1 hby rfl (by omega) v l.length (cells l) hown ad m.length c (cells m) (by rw [cells_len]; omega) hr.news (cells_one m)
        (by simp only [maxLen]; omega) (by omega) hbase
      refine ⟨v', w', hrun, ?_, h3, h5⟩
      unfold Own
      rw [List.length_append, show cells (l ++ m) = cells l ++ cells m from by simp [cells]]
      exact h2
  obtain ⟨v', w', hrun, h2, h3, h4⟩ := key
  unfold Oper.wp execOp
  simp only [ho, resolve, invoke, builtin, Sem.run_bind, Sem.run_pure, Result.andThen_ok, List.map_toArray, List.map_cons, List.map_nil, hs, hx, hrun]
  exact hK _ _ (h v' w' h2 h3 h4)

/-- make([]byte, n, c). -/
theorem wpList_mk (hgd : o.guard = none) (s x : Operand) (ho : o.op = Op.makeSlice 67 s x) (n c : Nat) (N C : Int) (hs : a.eval s = .int .i64 N) (hx : a.eval x = .int .i64 C) (hN : N = n) (hC : C = c) (hnc : n ≤ c) (hc : c ≤ 1073741824)
    (h : ∀ w', Own w' w.heap.size (.slice (some ⟨w.heap.size, 0, none⟩) n c) (List.replicate n 0) → Below w.heap.size w w' → w'.heap.size = w.heap.size + 1 → wpList Tryz.prog ops Q rest (a.put o.dst (.slice (some ⟨w.heap.size, 0, none⟩) n c)) w') : wpList Tryz.prog ops Q (o :: rest) a w := by
  obtain ⟨i, hi, hz, hs1, hby⟩ := info_parts byte_info
  refine wpList_plain hgd fun K hK => ?_
  have hrun := run_make (P := Tryz.prog) w 67 5 i _ Tryz.underlying67 hi hz .i64 .i64 n c (by omega) (by omega) (by rw [hby]; omega) (by omega)
  unfold Oper.wp execOp
  subst hN hC
  simp only [ho, Sem.run_bind, Sem.run_pure, Result.andThen_ok, hs, hx, hrun, Int.toNat_natCast]
  refine hK _ _ (h _ ?_ ((Below.refl _ _).alloc (Nat.le_refl _) _) (by simp))
  refine ⟨by simp [cells_len], .inr ⟨w.heap.size, c, _, by simp, Nat.le_refl _, heap_alloc_new _ _, by simpa using hnc, by simp only [maxLen]; omega, by simp [size_madeCells, hs1], ?_⟩⟩
  apply List.ext_getElem
  · simp [madeCells, cells, hs1]; omega
  · intro j h1 h2
    simp [madeCells, cells, hs1, Value.cells, byteV, B, Nat.mod_one]

/-- copy(d, s), d the call's own, s whatever reads as bytes. -/
theorem wpList_cp (hgd : o.guard = none) (d s : Operand) (ho : o.op = .call { callee := .builtin .copy, args := #[d, s], argTypes := #[67, 67] })
    (base : Nat) (l m : List UInt8) (D : Option Addr) (dn dc : Nat) (hd : a.eval d = .slice D dn dc) (hown : Own w base (.slice D dn dc) l) (A : Option Addr) (n c : Nat) (hx : a.eval s = .slice A n c) (hn : m.length = n) (hr : Reads w A m)
    (h : ∀ w', Own w' base (.slice D dn dc) (m.take l.length ++ l.drop m.length) → w.grownBy w' (Value.slice D dn dc).ownBlock → w'.heap.size = w.heap.size → wpList Tryz.prog ops Q rest (a.put o.dst (goInt (Nat.min m.length l.length))) w') : wpList Tryz.prog ops Q (o :: rest) a w := by
  subst hn
  have hdn : dn = l.length := by
    rcases hown.2 with ⟨e, h0⟩ | ⟨_, _, _, e, _⟩
    · injection e with _ e _; omega
    · injection e
  subst hdn
  by_cases h0 : Nat.min m.length l.length = 0
  · refine wpList_copy_nothing hgd d s _ _ ho _ Tryz.underlying67 byte_size D A _ dc _ c hd hx h0 ?_
    have e : m.take l.length ++ l.drop m.length = l := by
      rcases Nat.min_eq_zero_iff.1 h0 with e | e
      · obtain rfl := List.eq_nil_of_length_eq_zero e; simp
      · obtain rfl := List.eq_nil_of_length_eq_zero e; simp
    rw [h0] at h
    exact h w (by rw [e]; exact hown) (World.grownBy.refl _ _) rfl
  · have hpos : 0 < m.length ∧ 0 < l.length := by
      have := Nat.min_eq_zero_iff (m := m.length) (n := l.length)
      have h1 : ¬ (m.length = 0 ∨ l.length = 0) := fun h => h0 (this.2 h)
      omega
    rcases hown.2 with ⟨_, e⟩ | ⟨g, cap, cur, hv, hg, hh, hn, hm, hs, ht⟩
    · omega
    injection hv with hD _ hcap
    subst hD hcap
    cases A with
    | none =>
      rcases hr with h | ⟨_, _, h, _⟩
      · subst h; simp at hpos
      · cases h
    | some ad =>
    have hmin : (cells (m.take l.length)).length = Nat.min m.length l.length := by rw [cells_len, List.length_take, Nat.min_comm]
    have hle : Nat.min m.length l.length ≤ l.length := Nat.min_le_right _ _
    have hnews := hr.news
    have hmm : Nat.min m.length l.length = min m.length l.length := rfl
    refine wpList_copy_own hgd d s _ _ ho _ Tryz.underlying67 byte_size g 0 l.length dc ad m.length c hd hx cur _ hh (cells (m.take l.length)) hmin ?_ (by rw [hmin, Nat.zero_add]; omega) (cells_one _) ?_
    · intro j u hu
      have hj : j < (cells (m.take l.length)).length := (List.getElem?_eq_some_iff.1 hu).1
      apply hnews j u
      rw [← hu]
      simp only [cells, List.map_take]
      rw [List.getElem?_take, if_pos (by rw [hmin] at hj; omega)]
    · rw [hmin]
      refine h _ ?_ ⟨rfl, rfl, rfl, by simp [World.setRow], fun k hk hne => setRow_other w g k _ (by rintro rfl; exact hne rfl)⟩ (by simp [World.setRow])
      have hlen : (m.take l.length ++ l.drop m.length).length = l.length := by simp; omega
      refine ⟨by rw [cells_len]; omega, .inr ⟨g, dc, _, by rw [hlen], hg, setRow_heap w g _ _ _ _ hh, by rw [hlen]; exact hn, hm, ?_, ?_⟩⟩
      · have hsz : cur.toList.length = dc := by simpa using hs
        simp [cells]; simp at hsz; omega
      · have hcl : cur.toList.take l.length = cells l := by simpa using ht
        have hl2 : l.length ≤ cur.toList.length := by simp; omega
        rw [hlen]
        apply List.ext_getElem?
        intro j
        rw [Nat.mul_one, List.getElem?_take]
        by_cases hj : j < l.length
        · rw [if_pos hj]
          simp only [Nat.zero_add, List.take_zero, List.nil_append]
          by_cases hj2 : j < Nat.min m.length l.length
          · rw [List.getElem?_append_left (by rw [hmin]; exact hj2)]
            simp only [cells, List.map_append]
            rw [List.getElem?_append_left (by simp; have : Nat.min m.length l.length = min m.length l.length := rfl; omega)]
          · have e1 : Nat.min m.length l.length = m.length := by
              rcases Nat.le_total m.length l.length with h | h
              · exact Nat.min_eq_left h
              · have : Nat.min m.length l.length = l.length := Nat.min_eq_right h
                omega
            rw [e1] at hj2
            rw [List.getElem?_append_right (by rw [hmin, e1]; omega), hmin, e1]
            simp only [cells, List.map_append]
            rw [List.getElem?_append_right (by simp; omega)]
            simp only [List.length_map, List.length_take, List.map_drop]
            rw [List.getElem?_drop, List.getElem?_drop]
            have e2 : cur.toList[m.length + (j - m.length)]? = (cells l)[m.length + (j - m.length)]? := by
              rw [← hcl, List.getElem?_take, if_pos (by omega)]
            rw [e2]
            have e3 : min l.length m.length = m.length := by rw [Nat.min_comm]; exact e1
            rw [e3]
            rfl
        · rw [if_neg hj, List.getElem?_eq_none]
          rw [cells_len]; omega
end
end Go.Proofs.YtcmgppacipdnaaaGreatDoor

namespace Go.Proofs.YtcmgppacipdnaaaGreatDoor
open Go.RowKit
attribute [local go_sem] BtoNat x8 and8_15

theorem tmod_up (n b : Int) (hb : 0 < b) (hn : n < 0) (hm : n % b ≠ 0) : n.tmod b = n % b - b := by
  rw [Int.tmod_eq_emod]
  rw [if_neg]
  · simp; omega
  · rintro (h | h)
    · omega
    · exact hm (Int.emod_eq_zero_of_dvd h)
theorem tmod_nil (n b : Int) (hm : n % b = 0) : n.tmod b = 0 := Int.tmod_eq_zero_of_dvd (Int.dvd_of_emod_eq_zero hm)

theorem number_any (n b : Int) (w : World) (hb : 0 < b) (hb1 : b ≤ 9223372036854775807) (h1 : -9223372036854775808 ≤ n) (h2 : n ≤ 9223372036854775807) :
    Calls Tryz.prog 13 #[.int .i64 n, .int .i64 b] w fun e w' => e = .returned (.int .i64 (n % b)) ∧ w = w' := by
  have m1 := Int.emod_nonneg n (show b ≠ 0 by omega)
  have m2 := Int.emod_lt_of_pos n hb
  by_cases h0 : 0 ≤ n
  · go_enter Tryz.func13, Tryz.ntmps13
    go_wp2
    go_ret
    exact ⟨rfl, rfl⟩
  · by_cases hm : n % b = 0
    · have t := tmod_nil n b hm
      rw [hm]
      clear hm m1 m2
      go_enter Tryz.func13, Tryz.ntmps13
      go_wp2
      go_ret
      exact ⟨rfl, rfl⟩
    · have t := tmod_up n b hb (by omega) hm
      have e : n % b - b + b = n % b := by omega
      generalize n % b = r at *
      go_enter Tryz.func13, Tryz.ntmps13
      go_wp2
      go_ret
      exact ⟨rfl, rfl⟩

def num (n : Int) (b : Nat) : Nat := (n % (b : Int)).toNat
theorem num_lt (n : Int) (b : Nat) (h : 0 < b) : num n b < b := by
  unfold num
  have m1 := Int.emod_nonneg n (show (b : Int) ≠ 0 by omega)
  have m2 := Int.emod_lt_of_pos n (show 0 < (b : Int) by omega)
  omega
theorem num_at (n c : Int) (b : Nat) (w : World) (hc : c = b) (hb : 0 < b) (hb1 : b ≤ 9223372036854775807) (h1 : -9223372036854775808 ≤ n) (h2 : n ≤ 9223372036854775807) :
    Calls Tryz.prog 13 #[.int .i64 n, .int .i64 c] w fun e w' => e = .returned (.int .i64 (num n b : Nat)) ∧ w = w' := by
  subst hc
  have m1 := Int.emod_nonneg n (show (b : Int) ≠ 0 by omega)
  refine (number_any n b w (by omega) (by omega) h1 h2).mono fun e w' ⟨he, hw⟩ => ⟨?_, hw⟩
  rw [he]; unfold num; rw [Int.toNat_of_nonneg m1]
end Go.Proofs.YtcmgppacipdnaaaGreatDoor

namespace Go.Proofs.YtcmgppacipdnaaaGreatDoor
open Go.RowKit
attribute [local go_sem] BtoNat x8 and8_15

end Go.Proofs.YtcmgppacipdnaaaGreatDoor

namespace Go.Proofs.YtcmgppacipdnaaaGreatDoor
open Go.RowKit
attribute [local go_sem] BtoNat x8 and8_15

set_option maxHeartbeats 400000 in
theorem sameBytes_any (A A' : Option Addr) (cap cap' n n' : Nat) (l m : List UInt8) (w : World) (hn : l.length = n) (hn' : m.length = n') (hl : n ≤ 1000000) (hl' : n' ≤ 1000000) (hr : Reads w A l) (hr' : Reads w A' m) :
    Calls Tryz.prog 44 #[.slice A n cap, .slice A' n' cap'] w fun e w' => e = .returned (.bool (decide (l = m))) ∧ ∃ k, w' = w.drewN k := by
  by_cases hlen : n = n'
  · subst hlen
    have HR := hide hr
    have HR' := hide hr'
    have HN := hide hn
    have HN' := hide hn'
    clear hr hr' hn hn'
    go_enter Tryz.func44, Tryz.ntmps44
    go_wp2
    go_loopw [5] (fun i wr => ∃ k : Nat, k ≤ n ∧ i = .int .i64 k ∧ l.take k = m.take k ∧ ∃ q, wr = w.drewN q) (fun i _ => n - (intOf i).toNat)
    case atStart => exact ⟨0, Nat.zero_le _, rfl, by simp, 0, rfl⟩
    case round =>
      obtain ⟨k, hk, rfl, htk, q, rfl⟩ := hrel
      have HTK := hide htk
      clear htk
      by_cases hlt : k < n
      · have hkl : k < l.length := by rw [HN.out]; exact hlt
        have hkm : k < m.length := by rw [HN'.out]; exact hlt
        rcases HR.out with rfl | ⟨b, off, rfl, hb, hc⟩
        · simp at hkl
        rcases HR'.out with rfl | ⟨b', off', rfl, hb', hc'⟩
        · simp at hkm
        have hcell := hc k hkl
        have hcell' := hc' k hkm
        have HL : Hid (l.take (k + 1) = l.take k ++ [l.getD k 0]) := by
          show _ = _; rw [List.take_succ_eq_append_getElem hkl]; simp [List.getD, hkl]
        have HM : Hid (m.take (k + 1) = m.take k ++ [m.getD k 0]) := by
          show _ = _; rw [List.take_succ_eq_append_getElem hkm]; simp [List.getD, hkm]
        clear hc hc' hkl hkm
        generalize l.getD k 0 = x at *
        generalize m.getD k 0 = y at *
        by_cases hxy : x = y
        · subst hxy
          go_wp2
          go_quiet (fail)
          go_wp2
          go_roundw
          case rel => exact ⟨k + 1, by omega, by go_num, by rw [HL.out, HM.out, HTK.out], _, rfl⟩
          case measure => simp [intOf]; omega
        · have hne : (B x == B y) = false := by
            rw [beq_eq_false_iff_ne]; intro e; exact hxy (B_inj e)
          have HD : Hid (decide (l = m) = false) := by
            show _ = _
            rw [decide_eq_false_iff_not]
            intro e
            have h2 := HM.out
            rw [← e, HL.out, e] at h2
            have h3 := List.append_cancel_left h2
            simp at h3
            exact hxy h3
          clear hxy
          go_wp2
          go_quiet (fail)
          go_wp2
          go_ret
          exact ⟨by rw [HD.out]; rfl, _, rfl⟩
      · have HE : Hid (decide (l = m) = true) := by
          show _ = _
          rw [decide_eq_true_iff]
          have h1 := HTK.out
          have hkn : k = n := by omega
          rw [hkn, ← HN.out, List.take_length, HN.out, ← HN'.out, List.take_length] at h1
          exact h1
        go_wp2
        go_ret
        exact ⟨by rw [HE.out]; rfl, q, rfl⟩
  · have HD : Hid (decide (l = m) = false) := by
      show _ = _
      rw [decide_eq_false_iff_not]
      intro e; apply hlen; rw [← hn, ← hn', e]
    have hne : ((n : Int) == (n' : Int)) = false := by rw [beq_eq_false_iff_ne]; omega
    have hne2 : ((n : Int) != (n' : Int)) = true := by rw [bne_iff_ne]; omega
    clear hr hr' hn hn' hlen
    go_enter Tryz.func44, Tryz.ntmps44
    go_wp2
    go_ret
    exact ⟨by rw [HD.out]; rfl, 0, rfl⟩
end Go.Proofs.YtcmgppacipdnaaaGreatDoor

namespace Go.Proofs.YtcmgppacipdnaaaGreatDoor
open Go.RowKit Crc
attribute [local go_sem] BtoNat x32 n32 x8 and8_15 mod256 wrap8 xs32 Bd16toNat mul2

theorem more_drewN {w : World} {n : Nat} (h : Tabs w) : Tabs (w.drewN n) := ⟨h.lo, h.hi⟩
theorem flat_snoc (ps : List Part) (k : Nat) (h : k < ps.length) : flat (ps.take (k + 1)) = flat (ps.take k) ++ ps[k].l := by
  unfold flat; rw [List.take_succ_eq_append_getElem h]; simp only [List.flatMap_append, List.flatMap_cons, List.flatMap_nil, List.append_nil]

set_option maxHeartbeats 400000 in
theorem of_any (A : Option Addr) (cap : Nat) (ps : List Part) (w : World) (hl : ps.length ≤ 9223372036854775807) (hr : ReadsAll w A ps) (ht : Tabs w) :
    Calls Tryz.prog 144 #[.slice A ps.length cap] w fun e w' => e = .returned (.int .u32 (U (sum (flat ps)))) ∧ ∃ n, w' = w.drewN n := by
  have HR := hide hr
  have HT := hide ht
  clear hr ht
  go_enter Tryz.func144, Tryz.ntmps144
  go_wp2
  go_loopw [3, 8] (fun s i wr => ∃ k : Nat, k ≤ ps.length ∧ i = .int .i64 k ∧ s = .int .u32 (U (sum (flat (ps.take k)))) ∧ ∃ n, wr = w.drewN n) (fun _ i _ => ps.length - (intOf i).toNat)
  case atStart => exact ⟨0, Nat.zero_le _, rfl, by show _ = Value.int _ (U (sum [])); rw [sum_nil, U_zero], 0, rfl⟩
  case round =>
    obtain ⟨k, hk, rfl, rfl, n, rfl⟩ := hrel
    by_cases hlt : k < ps.length
    · have hs : sum (flat (ps.take (k + 1))) = more (sum (flat (ps.take k))) ps[k].l := by rw [flat_snoc ps k hlt, more_sum]
      have HS := hide hs
      clear hs
      generalize sum (flat (ps.take k)) = C at *
      rcases HR.out with rfl | ⟨b, off, rfl, hb, hc⟩
      · simp at hlt
      obtain ⟨hcell, hlen, hread⟩ := hc k hlt
      have HC := more_any ps[k].a ps[k].cap ps[k].l C (w.drewN n) hlen (hread.drewN n) (more_drewN HT.out)
      have HCC := hide HC
      unfold Part.val at hcell
      generalize ps[k].a = A' at *
      generalize ps[k].l = L at *
      generalize ps[k].cap = c' at *
      clear hc HC hread
      go_wp2_with (go_at_call 175; refine HCC.out.mono ?_; rintro e w' ⟨rfl, m, rfl⟩)
      go_roundw
      case rel => exact ⟨k + 1, by omega, by go_num, by rw [HS.out], n + m, rfl⟩
      case measure => simp [intOf]; omega
    · have : k = ps.length := by omega
      subst this
      go_wp2
      go_ret
      exact ⟨by rw [List.take_length]; rfl, n, rfl⟩

end Go.Proofs.YtcmgppacipdnaaaGreatDoor

namespace Go.Proofs.YtcmgppacipdnaaaGreatDoor
open Go.RowKit Crc

theorem Tabs.alloc {w : World} (h : Tabs w) (_ : 4 ≤ w.heap.size) (o : Obj) : Tabs (w.alloc o) :=
  ⟨fun y => (World.cell?_alloc_lt w o _ h.lt.1).trans (h.lo y), fun y => (World.cell?_alloc_lt w o _ h.lt.2).trans (h.hi y)⟩
def digits : List UInt8 := [49, 50, 51, 52, 53, 54, 55, 56, 57]
theorem of_at (A : Option Addr) (cap n : Nat) (ps : List Part) (w : World) (hn : ps.length = n) (hl : n ≤ 9223372036854775807) (hr : ReadsAll w A ps) (ht : Tabs w) :
    Calls Tryz.prog 144 #[.slice A n cap] w fun e w' => e = .returned (.int .u32 (U (sum (flat ps)))) ∧ ∃ n, w' = w.drewN n := by
  subst hn; exact of_any A cap ps w hl hr ht
end Go.Proofs.YtcmgppacipdnaaaGreatDoor

namespace Go.Proofs.YtcmgppacipdnaaaGreatDoor
open Go.RowKit Crc

/-- (Till round 2 it asked '4 ≤ C': where the tables lay in that seat.) -/
theorem Tabs.below {w w' : World} {C : Nat} (h : Tabs w) (hb : Below C w w') (hC : w.heap.size ≤ C) : Tabs w' :=
  ⟨fun y => (hb.cell (Nat.lt_of_lt_of_le h.lt.1 hC)).trans (h.lo y), fun y => (hb.cell (Nat.lt_of_lt_of_le h.lt.2 hC)).trans (h.hi y)⟩
end Go.Proofs.YtcmgppacipdnaaaGreatDoor

namespace Go.Proofs.YtcmgppacipdnaaaGreatDoor
open Go.RowKit Go.ChangeShapes Go.WideShapes Go.ChangeAt

theorem own : ownKnob Tryz.prog.godebug = none := by kernel_rfl
theorem laidOut : laidOutB Tryz.prog = true := by kernel_rfl
end Go.Proofs.YtcmgppacipdnaaaGreatDoor

namespace Go.Proofs.YtcmgppacipdnaaaGreatDoor
open Go.RowKit

theorem Reads.sub {w : World} {b off : Nat} {l : List UInt8} (h : Reads w (some ⟨b, off, none⟩) l) (i m : Nat) : Reads w (some ⟨b, off + i, none⟩) ((l.drop i).take m) := by
  rcases h with rfl | ⟨b', off', e, hb, hc⟩
  · exact .inl (by simp)
  · injection e with e
    injection e with e1 e2
    subst e1 e2
    refine .inr ⟨_, _, rfl, hb, fun k hk => ?_⟩
    have hk' : k < m ∧ i + k < l.length := by
      rw [List.length_take, List.length_drop] at hk; omega
    rw [Nat.add_assoc, hc (i + k) hk'.2]
    congr 2
    simp [List.getD, hk'.1]
/-- Where a slice cut ahead at q begins. -/
def cutA (A : Option Addr) (cap q : Nat) : Option Addr := if cap = q then A else A.map (·.add q)
theorem byte_elem : Tryz.prog.underlying 67 = some (.slice (Tryz.prog.elem 67)) := by kernel_rfl
theorem byte_sizeOf (W : World) : (sizeOf (Tryz.prog.elem 67)).run Tryz.prog W = .ok 1 W := by
  have h : Tryz.prog.elem 67 = 5 := by kernel_rfl
  obtain ⟨i, hi, hz, hs1, hby⟩ := info_parts byte_info
  rw [h]; simp [sizeOf, typeInfo, hi, hs1]
theorem run_cut_l (W : World) (A : Option Addr) (n cap q : Nat) (h : q ≤ n) :
    (Instr.sliceAt 67 (.slice A n cap) (some (.int .i64 (q : Int))) none none).run Tryz.prog W = .ok (.slice (cutA A cap q) (n - q) (cap - q)) W := by
  rw [run_sliceAt_slice W _ _ _ _ _ byte_elem, run_slice_l W _ A n cap byte_elem .i64 (q : Int) (by omega) (by omega), byte_sizeOf]
  simp [Result.andThen, sliced, cutA]
theorem run_cut_h (W : World) (A : Option Addr) (n cap q : Nat) (h : q ≤ cap) :
    (Instr.sliceAt 67 (.slice A n cap) none (some (.int .i64 (q : Int))) none).run Tryz.prog W = .ok (.slice A q cap) W := by
  rw [run_sliceAt_slice W _ _ _ _ _ byte_elem, run_slice_h W _ A n cap byte_elem .i64 (q : Int) (by omega) (by omega), byte_sizeOf]
  simp [Result.andThen, sliced]
  intro h0 
  cases A <;> simp [Addr.add]
theorem Reads.first {w : World} {A : Option Addr} {l : List UInt8} (h : Reads w A l) (q : Nat) : Reads w A (l.take q) := by
  rcases h with rfl | ⟨b, off, rfl, hb, hc⟩
  · exact .inl (by simp)
  · refine .inr ⟨_, _, rfl, hb, fun k hk => ?_⟩
    rw [List.length_take] at hk
    rw [hc k (by omega)]
    congr 2
    simp [List.getD, show k < q by omega]
theorem Reads.cut {w : World} {A : Option Addr} {l : List UInt8} (h : Reads w A l) (cap q : Nat) (hl : l.length ≤ cap) (hA : A = none → cap = 0) (hq : q ≤ l.length) : Reads w (cutA A cap q) (l.drop q) := by
  unfold cutA
  split
  · exact .inl (List.drop_eq_nil_of_le (by omega))
  · rcases A with _ | ⟨b, off, sp⟩
    · have := hA rfl; omega
    · rcases h with rfl | ⟨b', off', e, hb, hc⟩
      · exact .inl (by simp)
      · obtain ⟨rfl, rfl, rfl⟩ := by simpa using e
        have h2 := Reads.sub (w := w) (b := b) (off := off) (l := l) (.inr ⟨_, _, rfl, hb, hc⟩) q l.length
        rw [List.take_of_length_le (by simp)] at h2
        simpa [Addr.add_lit] using h2
theorem run_cut_lh (W : World) (A : Option Addr) (n cap lo hi : Nat) (h : lo ≤ hi) (h2 : hi ≤ cap) :
    (Instr.sliceAt 67 (.slice A n cap) (some (.int .i64 (lo : Int))) (some (.int .i64 (hi : Int))) none).run Tryz.prog W = .ok (.slice (cutA A cap lo) (hi - lo) (cap - lo)) W := by
  rw [run_sliceAt_slice W _ _ _ _ _ byte_elem, run_slice_lh W _ A n cap byte_elem .i64 .i64 (lo : Int) (hi : Int) (by omega) (by omega) (by omega), byte_sizeOf]
  simp [Result.andThen, sliced, cutA]
end Go.Proofs.YtcmgppacipdnaaaGreatDoor

namespace Go.Proofs.YtcmgppacipdnaaaGreatDoor
open Go.RowKit Go.ChangeShapes Go.WideShapes Go.ChangeAt

/-- What a walk is told of a slice of bytes that came in. -/
structure Arg (w : World) (A : Option Addr) (cap : Nat) (l : List UInt8) : Prop where
  le : l.length ≤ cap
  max : cap ≤ 9223372036854775807
  nil : A = none → cap = 0
  reads : Reads w A l

end Go.Proofs.YtcmgppacipdnaaaGreatDoor

namespace Go.Proofs.YtcmgppacipdnaaaGreatDoor
open Go.RowKit

theorem Own.arg {w : World} {base : Nat} {v : Value} {l : List UInt8} (h : Own w base v l) : ∃ A c, v = .slice A l.length c ∧ Arg w A c l := by
  obtain ⟨A, c, hv, hr, hn⟩ := h.reads
  refine ⟨A, c, hv, ?_⟩
  rcases h.2 with ⟨e, h0⟩ | ⟨g, cap, cur, e, hg, hh, hc, hm, hs, ht⟩
  · rw [hv] at e
    injection e with e1 e2 e3
    subst e3
    exact ⟨by omega, by omega, fun _ => rfl, hr⟩
  · rw [hv] at e
    injection e with e1 e2 e3
    subst e3
    exact ⟨hc, by simpa [maxLen] using hm, fun h => (hn h).2, hr⟩
theorem Arg.below {w w' : World} {C : Nat} {A : Option Addr} {cap : Nat} {l : List UInt8} (h : Arg w A cap l) (hb : Below C w w') (hC : w.heap.size ≤ C) : Arg w' A cap l := ⟨h.le, h.max, h.nil, h.reads.below hb hC⟩
theorem Arg.drewN {w : World} {A : Option Addr} {cap : Nat} {l : List UInt8} (h : Arg w A cap l) (n : Nat) : Arg (w.drewN n) A cap l := ⟨h.le, h.max, h.nil, h.reads⟩
theorem Arg.alloc {w : World} {A : Option Addr} {cap : Nat} {l : List UInt8} (h : Arg w A cap l) (o : Obj) : Arg (w.alloc o) A cap l := ⟨h.le, h.max, h.nil, h.reads.alloc o⟩
theorem Arg.first {w : World} {A : Option Addr} {cap : Nat} {l : List UInt8} (h : Arg w A cap l) (q : Nat) : Arg w A cap (l.take q) := ⟨by have := h.le; rw [List.length_take]; omega, h.max, h.nil, h.reads.first q⟩
theorem Arg.cut {w : World} {A : Option Addr} {cap : Nat} {l : List UInt8} (h : Arg w A cap l) (q : Nat) (hq : q ≤ l.length) : Arg w (cutA A cap q) (cap - q) (l.drop q) :=
  ⟨by have := h.le; rw [List.length_drop]; omega, by have := h.max; omega, fun e => by
    unfold cutA at e
    split at e
    · omega
    · cases A with
      | none => have := h.nil rfl; omega
      | some a => simp at e, h.reads.cut cap q h.le h.nil hq⟩
end Go.Proofs.YtcmgppacipdnaaaGreatDoor

namespace Go.Proofs.YtcmgppacipdnaaaGreatDoor
open Go Go.RowKit

/-- What an operation does, its operands read by 'ev'. -/
def OpRuns (P : Program) (ev : Operand → Value) (o : Oper) (w : World) (Post : Value → World → Prop) : Prop :=
  match (execOp ev o).run P w with
  | .ok (.value v) w' => Post v w'
  | .ok .skip w' => Post undef w'
  | .ok (.enter f args) w' => Calls P f args w' fun e w'' => ∃ v, e = .returned v ∧ Post v w''
  | _ => False

theorem OpRuns.wp {P : Program} {a : Act} {o : Oper} {w : World} {Post : Value → World → Prop} {K : Act → World → Prop} {Q : Exit → Act → World → Prop}
    (h : OpRuns P a.eval o w Post) (hK : ∀ v w', Post v w' → K (a.put o.dst v) w') : o.wp P a w K Q := by
  unfold OpRuns at h
  unfold Oper.wp
  generalize (execOp a.eval o).run P w = r at *
  cases r with
  | ok n w' =>
    cases n <;> simp only at h <;> simp only [Oper.upon]
    case value v => exact hK _ _ h
    case skip => exact hK _ _ h
    case enter f args => exact h.mono fun e w'' ⟨v, he, hp⟩ => by subst he; exact hK _ _ hp
  | halt x w' => simp only at h

/-- Where an operation leaves its value. -/
def dstOf (ops : Array Oper) (i : Nat) : Nat := ((ops[i]?).bind (·.dst)).getD 0
def dstsOf (ops : Array Oper) : List Nat := (List.range (ops.size - 1)).map (dstOf ops)

/-- The form of such a region: no guard; each but the last leaves a value in a slot of its own; each waits for earlier ones alone; the last waits for all. -/
def openForm (ops : Array Oper) : Bool :=
  decide (0 < ops.size) &&
  (List.range ops.size).all (fun i => match ops[i]? with
    | some o => o.guard.isNone && o.after.all (fun e => decide (e.on < i)) && (decide (i = ops.size - 1) || o.dst.isSome)
    | none => false) &&
  (List.range (ops.size - 1)).all (fun i => match ops[ops.size - 1]? with
    | some o => o.after.any (fun e => e.on == i && Region.binds .any e)
    | none => false) &&
  decide (dstsOf ops).Nodup

/-- The frame with such values in such slots. -/
def puts (a : Act) (f : Nat → Value) : List Nat → Act
  | [] => a
  | d :: ds => puts (a.put (some d) (f d)) f ds

theorem puts_defers (a : Act) (f : Nat → Value) (ds : List Nat) : (puts a f ds).defers = a.defers := by
  induction ds generalizing a with
  | nil => rfl
  | cons d ds ih => simp only [puts]; rw [ih]; rfl
theorem puts_get (a : Act) (f : Nat → Value) (ds : List Nat) (k : Nat) : (puts a f ds).tmps[k]? = if k ∈ ds ∧ k < a.tmps.size then some (f k) else a.tmps[k]? := by
  induction ds generalizing a with
  | nil => simp [puts]
  | cons d ds ih =>
    simp only [puts]
    rw [ih]
    by_cases hk : k < a.tmps.size
    · by_cases hm : k ∈ ds
      · simp [hm, hk, Act.put]
      · by_cases hd : k = d
        · subst hd; simp [hm, hk, Act.put]
        · have hd' : d ≠ k := fun e => hd e.symm
          simp [hm, hd, hd', Act.put]
    · simp [hk, Act.put]

theorem act_eq {x y : Act} (h1 : x.tmps = y.tmps) (h2 : x.defers = y.defers) : x = y := by
  cases x; cases y
  simp only at h1 h2
  subst h1 h2; rfl

/-- What holds in the midst of the region. -/
structure Midst (P : Program) (ops : Array Oper) (D : Nat → Value → World → Prop) (a : Act) (w : World) (listed : Array Bool) (a' : Act) (w' : World) : Prop where
  size : a'.tmps.size = a.tmps.size
  defers : a'.defers = a.defers
  same : ∀ k, k ∉ dstsOf ops → a'.tmps[k]? = a.tmps[k]?
  below : Below w.heap.size w w'
  known : ∀ i, i < ops.size - 1 → listed.getD i false = true → D (dstOf ops i) (a'.tmps.getD (dstOf ops i) undef) w'

theorem dst_mem {ops : Array Oper} {i : Nat} (h : i < ops.size - 1) : dstOf ops i ∈ dstsOf ops := List.mem_map.2 ⟨i, List.mem_range.2 h, rfl⟩
theorem dst_inj {ops : Array Oper} (hn : (dstsOf ops).Nodup) {i j : Nat} (hi : i < ops.size - 1) (hj : j < ops.size - 1) (h : dstOf ops i = dstOf ops j) : i = j := by
  have h1 : (dstsOf ops)[i]? = some (dstOf ops i) := by simp [dstsOf, hi]
  have h2 : (dstsOf ops)[j]? = some (dstOf ops j) := by simp [dstsOf, hj]
  have hl : (dstsOf ops).length = ops.size - 1 := by simp [dstsOf]
  exact (List.getElem?_inj (by omega) hn).1 (by rw [h1, h2, h])

theorem getD_set_self {listed : Array Bool} {i : Nat} (h : i < listed.size) (d : Bool) : (listed.setIfInBounds i true).getD i d = true := by
  simp [h]

/-- How many are still to come. -/
def todo (listed : Array Bool) : Nat := listed.toList.count false
theorem todo_set {listed : Array Bool} {i : Nat} (hi : i < listed.size) (h : listed.getD i true = false) : todo (listed.setIfInBounds i true) + 1 = todo listed := by
  unfold todo
  have hg : listed.toList[i]? = some false := by
    have : listed[i] = false := by simpa [hi] using h
    simp [hi, this]
  obtain ⟨l1, l2, e, hl⟩ : ∃ l1 l2, listed.toList = l1 ++ false :: l2 ∧ l1.length = i := by
    refine ⟨listed.toList.take i, listed.toList.drop (i + 1), ?_, by simp; omega⟩
    have hlt : i < listed.toList.length := by simpa using hi
    have hv : listed.toList[i] = false := by
      rw [List.getElem?_eq_getElem hlt] at hg
      exact Option.some.inj hg
    have h2 := List.take_append_drop i listed.toList
    rw [List.drop_eq_getElem_cons hlt, hv] at h2
    exact h2.symm
  rw [Array.toList_setIfInBounds, e, ← hl]
  simp [List.count_append]
  omega

theorem wpAny_open {P : Program} {ops : Array Oper} {Q : Exit → Act → World → Prop} {D : Nat → Value → World → Prop} {a : Act} {w : World} (hB : openForm ops = true)
    (hfit : ∀ d ∈ dstsOf ops, d < a.tmps.size)
    (stable : ∀ d v w1 w2, D d v w1 → Below w1.heap.size w1 w2 → D d v w2)
    (step : ∀ i o, i < ops.size - 1 → ops[i]? = some o → ∀ (ev : Operand → Value) w1, Below w.heap.size w w1 → (∀ x, (∀ d ∈ dstsOf ops, x ≠ .tmp d) → ev x = a.eval x) →
      (∀ e ∈ o.after.toList, e.on < ops.size - 1 → Region.binds .any e = true → D (dstOf ops e.on) (ev (.tmp (dstOf ops e.on))) w1) → OpRuns P ev o w1 fun v w2 => Below w1.heap.size w1 w2 ∧ D (dstOf ops i) v w2)
    (last : ∀ o, ops[ops.size - 1]? = some o → ∀ f w1, Below w.heap.size w w1 → (∀ d ∈ dstsOf ops, D d (f d) w1) → o.wp P (puts a f (dstsOf ops)) w1 (fun a' w' => Q .normal a' w') Q ∨ (o.asks P (puts a f (dstsOf ops)) w1 ∧ LetsOut Q)) :
    ∀ (fuel : Nat) (listed : Array Bool) (a' : Act) (w' : World), listed.size = ops.size → todo listed = fuel →
      (listed.getD (ops.size - 1) true = false → Midst P ops D a w listed a' w') → (listed.getD (ops.size - 1) true = true → todo listed = 0 ∧ Q .normal a' w') → wpAny P .any ops Q fuel listed a' w' := by
  have hB' := hB
  simp only [openForm, Bool.and_eq_true, decide_eq_true_eq, List.all_eq_true, List.mem_range] at hB'
  obtain ⟨⟨⟨hpos, hall⟩, hlast⟩, hnd⟩ := hB'
  -- each operation's own form
  have form : ∀ i o, ops[i]? = some o → o.guard = none ∧ (∀ e ∈ o.after.toList, e.on < i) ∧ (i = ops.size - 1 ∨ o.dst.isSome = true) := by
    intro i o ho
    have hi : i < ops.size := (Array.getElem?_eq_some_iff.1 ho).1
    have h := hall i hi
    rw [ho] at h
    simp only [Bool.and_eq_true, Bool.or_eq_true, decide_eq_true_eq, Option.isNone_iff_eq_none] at h
    refine ⟨h.1.1, fun e he => ?_, h.2⟩
    have := Array.all_eq_true_iff_forall_mem.1 h.1.2 e (by simpa using he)
    simpa using this
  -- where some are still to come one may come up
  have alive : ∀ listed : Array Bool, listed.size = ops.size → 0 < todo listed → Region.ready .any ops listed ≠ [] := by
    intro listed hs ht he
    obtain ⟨i, hi⟩ : ∃ i, i < ops.size ∧ listed.getD i true = false := by
      unfold todo at ht
      obtain ⟨i, hi, e⟩ := List.mem_iff_getElem.1 (List.count_pos_iff.1 ht)
      have hi' : i < listed.size := by simpa using hi
      exact ⟨i, by omega, by simpa [hi'] using e⟩
    obtain ⟨n, ⟨hn, hf⟩, hmin⟩ : ∃ n, (n < ops.size ∧ listed.getD n true = false) ∧ ∀ m, m < n → listed.getD m true = true := by
      have : ∀ k i, i < k → i < ops.size → listed.getD i true = false → ∃ n, (n < ops.size ∧ listed.getD n true = false) ∧ ∀ m, m < n → listed.getD m true = true := by
        intro k
        induction k with
        | zero => intro i h; omega
        | succ k ih =>
          intro i hik h1 h2
          by_cases hm : ∃ m, m < i ∧ listed.getD m true = false
          · obtain ⟨m, hmi, hmf⟩ := hm
            exact ih m (by omega) (by omega) hmf
          · refine ⟨i, ⟨h1, h2⟩, fun m hmi => ?_⟩
            rcases Bool.eq_false_or_eq_true (listed.getD m true) with h | h
            · exact h
            · exact absurd ⟨m, hmi, h⟩ hm
      exact this (i + 1) i (by omega) hi.1 hi.2
    have hmem : n ∈ Region.ready .any ops listed := by
      refine mem_ready.2 ⟨hf, ops[n], by simp [hn], fun e hee _ => ?_⟩
      have hlt := (form n ops[n] (by simp [hn])).2.1 e (by simpa using hee)
      have := hmin e.on hlt
      have hsz : e.on < listed.size := by omega
      simpa [hsz] using this
    rw [he] at hmem
    cases hmem
  intro fuel
  induction fuel with
  | zero =>
    intro listed a' w' hs ht _ hdone
    have hl : listed.getD (ops.size - 1) true = true := by
      rcases Bool.eq_false_or_eq_true (listed.getD (ops.size - 1) true) with h | h
      · exact h
      · have := todo_set (i := ops.size - 1) (listed := listed) (by omega) h
        omega
    refine ⟨?_, (hdone hl).2⟩
    match hr : Region.ready .any ops listed with
    | [] => rfl
    | i :: _ =>
      exfalso
      have hi : i ∈ Region.ready .any ops listed := by rw [hr]; exact List.mem_cons_self
      obtain ⟨h1, o, ho, _⟩ := mem_ready.1 hi
      have hlt : i < ops.size := (Array.getElem?_eq_some_iff.1 ho).1
      have := todo_set (i := i) (listed := listed) (by omega) h1
      omega
  | succ fuel ih =>
    intro listed a' w' hs ht hmid hdone
    refine ⟨fun he => absurd he (alive listed hs (by omega)), fun i hi => ?_⟩
    obtain ⟨h1, o, ho, hdeps⟩ := mem_ready.1 hi
    have hlt : i < ops.size := (Array.getElem?_eq_some_iff.1 ho).1
    have hset := todo_set (i := i) (listed := listed) (by omega) h1
    obtain ⟨hg, hon, hdst⟩ := form i o ho
    have hl : listed.getD (ops.size - 1) true = false := by
      rcases Bool.eq_false_or_eq_true (listed.getD (ops.size - 1) true) with h | h
      · have := (hdone h).1; omega
      · exact h
    have M := hmid hl
    unfold wpOp
    simp only [ho]
    rw [if_pos (by simp [Region.wanted, hg])]
    by_cases hil : i = ops.size - 1
    · -- the last: all others have come up
      subst hil
      have hallL : ∀ j, j < ops.size - 1 → listed.getD j false = true := by
        intro j hj
        have h := hlast j hj
        rw [ho] at h
        simp only [Array.any_eq_true, Bool.and_eq_true, beq_iff_eq] at h
        obtain ⟨k, hk, h2, h3⟩ := h
        have := hdeps o.after[k] (Array.getElem_mem hk) h3
        rwa [h2] at this
      have hput : a' = puts a (fun k => a'.tmps.getD k undef) (dstsOf ops) := by
        have ht : a'.tmps = (puts a (fun k => a'.tmps.getD k undef) (dstsOf ops)).tmps := by
          apply Array.ext_getElem?
          intro k
          rw [puts_get]
          split
          · rename_i h
            have hk : k < a'.tmps.size := by rw [M.size]; exact h.2
            simp [hk]
          · rename_i h
            by_cases hk : k ∈ dstsOf ops
            · exact absurd ⟨hk, hfit k hk⟩ h
            · exact M.same k hk
        have hd : a'.defers = (puts a (fun k => a'.tmps.getD k undef) (dstsOf ops)).defers := by rw [puts_defers, M.defers]
        exact act_eq ht hd
      have h := last o ho (fun k => a'.tmps.getD k undef) w' M.below (fun d hd => by
        obtain ⟨j, hj, rfl⟩ := List.mem_map.1 hd
        exact M.known j (List.mem_range.1 hj) (hallL j (List.mem_range.1 hj)))
      rw [← hput] at h
      have hall0 : todo (listed.setIfInBounds (ops.size - 1) true) = 0 := by
        unfold todo
        rw [List.count_eq_zero]
        intro hmem
        obtain ⟨j, hj, e⟩ := List.mem_iff_getElem.1 hmem
        have hj' : j < listed.size := by simpa using hj
        by_cases hjl : j = ops.size - 1
        · subst hjl
          simp at e
        · have h2 := hallL j (by omega)
          have e2 : listed[j] = false := by
            simpa [Array.getElem_setIfInBounds, Ne.symm hjl] using e
          simp [hj', e2] at h2
      refine h.imp (fun h => Oper.wp_mono (fun a2 w2 hq => ih _ a2 w2 (by simpa using hs) (by omega) (fun h => ?_) (fun _ => ⟨hall0, hq⟩)) h) id
      rw [getD_set_self (by omega)] at h
      cases h
    · -- one of the others
      have hi1 : i < ops.size - 1 := by omega
      obtain ⟨d, hd⟩ : ∃ d, o.dst = some d := Option.isSome_iff_exists.1 (hdst.resolve_left hil)
      have hdi : dstOf ops i = d := by simp [dstOf, ho, hd]
      have hdm : d ∈ dstsOf ops := hdi ▸ dst_mem hi1
      have hr := step i o hi1 ho a'.eval w' M.below (fun x hx => by
        cases x with
        | tmp t =>
          have hm : t ∉ dstsOf ops := fun hm => hx t hm rfl
          have := M.same t hm
          simp only [Act.eval, Array.getD_eq_getD_getElem?, this]
        | const c => rfl
        | global g => rfl
        | func f => rfl) (fun e he hen hbd => M.known e.on hen (hdeps e (by simpa using he) hbd))
      left
      refine hr.wp fun v w2 ⟨hb2, hD⟩ => ih _ _ w2 (by simpa using hs) (by omega) (fun _ => ?_) (fun h => ?_)
      · rw [hd]
        refine ⟨by simp [Act.put, M.size], by simp [Act.put, M.defers], fun k hk => ?_, M.below.trans (hb2.mono M.below.size), fun j hj hjl => ?_⟩
        · have hkd : d ≠ k := fun e => hk (e ▸ hdm)
          simp only [Act.put, Array.getElem?_setIfInBounds, if_neg hkd]
          exact M.same k hk
        · by_cases hji : j = i
          · subst hji
            rw [hdi] at hD ⊢
            have hds : d < a'.tmps.size := by rw [M.size]; exact hfit d hdm
            simpa [Act.put, hds] using hD
          · have hne : d ≠ dstOf ops j := fun e => hji (dst_inj hnd hj hi1 (by rw [hdi, e]))
            have hold : listed.getD j false = true := by rwa [getD_set_ne false (Ne.symm hji)] at hjl
            have := stable _ _ _ _ (M.known j hj hold) hb2
            simpa [Act.put, Array.getElem?_setIfInBounds, hne] using this
      · rw [getD_set_ne true hil] at h
        rw [hl] at h
        cases h

/-- THE LAW. -/
theorem wp_region_open {P : Program} {id : Nat} {ops : Array Oper} {Q : Exit → Act → World → Prop} (D : Nat → Value → World → Prop) {a : Act} {w : World} (hm : P.follows .mixedOrders = true) (hB : openForm ops = true)
    (hfit : ((dstsOf ops).all fun d => decide (d < a.tmps.size)) = true)
    (stable : ∀ d v w1 w2, D d v w1 → Below w1.heap.size w1 w2 → D d v w2)
    (step : ∀ i o, i < ops.size - 1 → ops[i]? = some o → ∀ (ev : Operand → Value) w1, Below w.heap.size w w1 → (∀ x, (∀ d ∈ dstsOf ops, x ≠ .tmp d) → ev x = a.eval x) →
      (∀ e ∈ o.after.toList, e.on < ops.size - 1 → Region.binds .any e = true → D (dstOf ops e.on) (ev (.tmp (dstOf ops e.on))) w1) → OpRuns P ev o w1 fun v w2 => Below w1.heap.size w1 w2 ∧ D (dstOf ops i) v w2)
    (last : ∀ o, ops[ops.size - 1]? = some o → ∀ f w1, Below w.heap.size w w1 → (∀ d ∈ dstsOf ops, D d (f d) w1) → wpList P ops Q [o] (puts a f (dstsOf ops)) w1) : (Code.region id ops true).wp P Q a w := by
  have hB' := hB
  simp only [openForm, Bool.and_eq_true, decide_eq_true_eq] at hB'
  have hpos := hB'.1.1.1
  refine wp_region_any hm (wpAny_open (D := D) (w := { w with drawn := w.drawn + 1 }) hB (fun d hd => by simpa using List.all_eq_true.1 hfit d hd) stable
    (fun i o hi ho ev w1 hb => step i o hi ho ev w1 ⟨hb.os, hb.tape, hb.output, hb.size, hb.block⟩) (fun o ho f w1 hb hD => ?_) _ _ _ _ (by simp) ?_ (fun _ => ?_) (fun h => ?_))
  · have h := last o ho f w1 ⟨hb.os, hb.tape, hb.output, hb.size, hb.block⟩ hD
    have hall := hB'.1.1.2
    rw [List.all_eq_true] at hall
    have hg := hall (ops.size - 1) (List.mem_range.2 (by omega))
    rw [ho] at hg
    simp only [Bool.and_eq_true, Option.isNone_iff_eq_none] at hg
    unfold wpList at h
    rw [if_pos (by simp [Region.wanted, hg.1.1])] at h
    exact h
  · simp [todo]
  · refine ⟨rfl, rfl, fun _ _ => rfl, Below.refl _ _, fun i hi h => ?_⟩
    have h0 : (Array.replicate ops.size false).getD i false = false := by simp [show i < ops.size by omega]
    rw [h0] at h; cases h
  · have h0 : (Array.replicate ops.size false).getD (ops.size - 1) true = false := by simp [show ops.size - 1 < ops.size by omega]
    rw [h0] at h; cases h
/-! ### The same, for a region that is written out -/

/-- What is known of a slot, and outlives new blocks and draws. -/
structure Known where
  p : Value → World → Prop
  st : ∀ v w1 w2, p v w1 → Below w1.heap.size w1 w2 → p v w2
/-- The slot holds this value. -/
def Known.is (x : Value) : Known := ⟨fun v _ => v = x, fun _ _ _ h _ => h⟩
def Known.any : Known := ⟨fun _ _ => True, fun _ _ _ _ _ => trivial⟩
/-- The slot holds a slice of one cell, a new block's, with this in it. -/
def Known.one (x : Value) : Known := ⟨fun v w => ∃ g, v = .slice (some ⟨g, 0, none⟩) 1 1 ∧ g < w.heap.size ∧ w.cell? ⟨g, 0, none⟩ = some x,
  fun _ _ _ ⟨g, h1, h2, h3⟩ hb => ⟨g, h1, Nat.lt_of_lt_of_le h2 hb.size, (hb.cell (p := ⟨g, 0, none⟩) h2).trans h3⟩⟩

def DepsOk (dsts : List Nat) (T : Nat → Known) (ev : Operand → Value) (w1 : World) : List Edge → Prop
  | [] => True
  | e :: es => (T (dsts.getD e.on 0)).p (ev (.tmp (dsts.getD e.on 0))) w1 ∧ DepsOk dsts T ev w1 es
def StepOk (P : Program) (dsts : List Nat) (T : Nat → Known) (a : Act) (w : World) (o : Oper) (d : Nat) : Prop :=
  ∀ (ev : Operand → Value) w1, Below w.heap.size w w1 → (∀ x, (∀ d ∈ dsts, x ≠ .tmp d) → ev x = a.eval x) → DepsOk dsts T ev w1 o.after.toList → OpRuns P ev o w1 fun v w2 => Below w1.heap.size w1 w2 ∧ (T d).p v w2
def StepsOk (P : Program) (dsts : List Nat) (T : Nat → Known) (a : Act) (w : World) : List Oper → List Nat → Prop
  | o :: os, d :: ds => StepOk P dsts T a w o d ∧ StepsOk P dsts T a w os ds
  | _, _ => True

theorem depsOk_of {dsts : List Nat} {T : Nat → Known} {ev : Operand → Value} {w1 : World} : ∀ {es : List Edge}, (∀ e ∈ es, (T (dsts.getD e.on 0)).p (ev (.tmp (dsts.getD e.on 0))) w1) → DepsOk dsts T ev w1 es
  | [], _ => trivial
  | e :: _, h => ⟨h e List.mem_cons_self, depsOk_of fun e' he => h e' (List.mem_cons_of_mem _ he)⟩
theorem stepsOk_at {P : Program} {dsts : List Nat} {T : Nat → Known} {a : Act} {w : World} : ∀ {os : List Oper} {ds : List Nat} (_ : StepsOk P dsts T a w os ds) (i : Nat) {o : Oper} {d : Nat}, os[i]? = some o → ds[i]? = some d → StepOk P dsts T a w o d
  | [], _, _, i, o, _, ho, _ => by simp at ho
  | _ :: _, [], _, i, _, d, _, hd => by simp at hd
  | o' :: os, d' :: ds, h, 0, o, d, ho, hd => by
    simp at ho hd
    subst ho hd
    exact h.1
  | o' :: os, d' :: ds, h, i + 1, o, d, ho, hd => stepsOk_at h.2 i (by simpa using ho) (by simpa using hd)

/-- All edges bind. -/
def edgesBind (ops : Array Oper) : Bool := ops.all fun o => o.after.all fun e => Region.binds .any e

theorem wp_region_made {P : Program} {id : Nat} {ops : Array Oper} {Q : Exit → Act → World → Prop} (dsts : List Nat) (T : Nat → Known) (o : Oper) {a : Act} {w : World} (hm : P.follows .mixedOrders = true)
    (hB : (openForm ops && edgesBind ops && decide (dstsOf ops = dsts)) = true)
    (ho : ops[ops.size - 1]? = some o)
    (hfit : (dsts.all fun d => decide (d < a.tmps.size)) = true)
    (steps : StepsOk P dsts T a w (ops.toList.take (ops.size - 1)) dsts)
    (last : ∀ f w1, Below w.heap.size w w1 → (∀ d ∈ dsts, (T d).p (f d) w1) → wpList P ops Q [o] (puts a f dsts) w1) : (Code.region id ops true).wp P Q a w := by
  simp only [Bool.and_eq_true, decide_eq_true_eq] at hB
  obtain ⟨⟨hB, hbind⟩, rfl⟩ := hB
  have hB' := hB
  simp only [openForm, Bool.and_eq_true, decide_eq_true_eq] at hB'
  have hform := hB'.1.1.2
  rw [List.all_eq_true] at hform
  refine wp_region_open (fun d v w => (T d).p v w) hm hB hfit (fun d v w1 w2 h hb => (T d).st v w1 w2 h hb) ?_ (fun o' ho' f w1 hb h => ?_)
  · intro i o hi ho ev w1 hb hev hdeps
    have hlt : i < ops.size := by omega
    have h1 := stepsOk_at steps i (o := o) (d := dstOf ops i) (by
      rw [List.getElem?_take, if_pos hi]
      simpa using ho) (by simp [dstsOf, hi])
    refine h1 ev w1 hb hev (depsOk_of fun e he => ?_)
    have hf := hform i (List.mem_range.2 hlt)
    rw [ho] at hf
    simp only [Bool.and_eq_true] at hf
    have hon : e.on < i := by simpa using Array.all_eq_true_iff_forall_mem.1 hf.1.2 e (by simpa using he)
    have hbd : Region.binds .any e = true := by
      have h2 := Array.all_eq_true_iff_forall_mem.1 hbind o (Array.mem_of_getElem? ho)
      exact Array.all_eq_true_iff_forall_mem.1 h2 e (by simpa using he)
    have hg : (dstsOf ops).getD e.on 0 = dstOf ops e.on := by simp [dstsOf, List.getD, show e.on < ops.size - 1 by omega]
    rw [hg]
    exact hdeps e he (by omega) hbd
  · obtain rfl : o' = o := Option.some.inj (ho'.symm.trans ho)
    exact last f w1 hb h

/-! ### The same where the last operation too only leaves a value (and need not wait for all) -/

def dstsAll (ops : Array Oper) : List Nat := (List.range ops.size).map (dstOf ops)
theorem dstAll_mem {ops : Array Oper} {i : Nat} (h : i < ops.size) : dstOf ops i ∈ dstsAll ops := List.mem_map.2 ⟨i, List.mem_range.2 h, rfl⟩
theorem dstAll_inj {ops : Array Oper} (hn : (dstsAll ops).Nodup) {i j : Nat} (hi : i < ops.size) (hj : j < ops.size) (h : dstOf ops i = dstOf ops j) : i = j := by
  have h1 : (dstsAll ops)[i]? = some (dstOf ops i) := by simp [dstsAll, hi]
  have h2 : (dstsAll ops)[j]? = some (dstOf ops j) := by simp [dstsAll, hj]
  have hl : (dstsAll ops).length = ops.size := by simp [dstsAll]
  exact (List.getElem?_inj (by omega) hn).1 (by rw [h1, h2, h])

end Go.Proofs.YtcmgppacipdnaaaGreatDoor

namespace Go.Proofs.YtcmgppacipdnaaaGreatDoor
open Go.RowKit

/-- An error of errors.New at an address. -/
def errV (p : Addr) : Value := .iface 297 (.pointer (some p))
/-- The errors' variables, in the order in which they are asked. -/
def gs : List Nat := [8, 9, 2, 5, 3, 10, 1, 11, 6, 7, 12, 13, 4, 14, 0, 15, 16, 17, 18]

/-- Some of the nineteen errors, as the program lays them: each its own pointer. -/
structure SentsOn (S : Nat → Prop) (w : World) (p : Nat → Addr) : Prop where
  cell : ∀ j, S j → w.cell? ⟨gs.getD j 0, 0, none⟩ = some (errV (p j))
  blk : ∀ j, S j → (p j).block < w.heap.size ∧ ∃ c t, w.heap[(p j).block]? = some (.cells c t (0, 0))
  ne : ∀ i j, S i → S j → i ≠ j → p i ≠ p j
/-- All of them. -/
abbrev Sents (w : World) (p : Nat → Addr) : Prop := SentsOn (fun j => j < 19) w p
/-- The first five: those that readers and batches tell. -/
abbrev Sents5 (w : World) (p : Nat → Addr) : Prop := SentsOn (fun j => j < 5) w p
/-- Those that a batch's Valid tells. -/
abbrev Sents2 (w : World) (p : Nat → Addr) : Prop := SentsOn (fun j => j = 3 ∨ j = 4) w p
theorem SentsOn.mono {S T : Nat → Prop} {w : World} {p : Nat → Addr} (h : SentsOn S w p) (hT : ∀ j, T j → S j) : SentsOn T w p :=
  ⟨fun j hj => h.cell j (hT j hj), fun j hj => h.blk j (hT j hj), fun i j hi hj => h.ne i j (hT i hi) (hT j hj)⟩
/-- Those that a reader of numbers tells, and those that a sealed text's Open tells. -/
abbrev SentsV (w : World) (p : Nat → Addr) : Prop := SentsOn (fun j => j = 0 ∨ j = 2 ∨ j = 4) w p
instance sents5_v (w : World) (p : Nat → Addr) : Coe (SentsOn (fun j => j < 5) w p) (SentsOn (fun j => j = 0 ∨ j = 2 ∨ j = 4) w p) := ⟨fun h => h.mono fun j hj => by omega⟩
instance sents_o (w : World) (p : Nat → Addr) : Coe (SentsOn (fun j => j < 19) w p) (SentsOn (fun j => j < 2) w p) := ⟨fun h => h.mono fun j hj => by omega⟩
theorem SentsOn.five {w : World} {p : Nat → Addr} (h : Sents w p) : Sents5 w p := h.mono fun j hj => by omega
theorem SentsOn.two {w : World} {p : Nat → Addr} (h : Sents5 w p) : Sents2 w p := h.mono fun j hj => by omega

theorem SentsOn.size {S : Nat → Prop} {w : World} {p : Nat → Addr} (h : SentsOn S w p) (j : Nat) (hj : S j) : gs.getD j 0 < w.heap.size := by
  have hc := h.cell j hj
  generalize gs.getD j 0 = g at *
  rcases Nat.lt_or_ge g w.heap.size with h | h
  · exact h
  · simp [World.cell?, Array.getElem?_eq_none h] at hc
theorem SentsOn.below {S : Nat → Prop} {w w' : World} {p : Nat → Addr} (h : SentsOn S w p) (hb : Below w.heap.size w w') : SentsOn S w' p :=
  ⟨fun j hj => (hb.cell (p := ⟨gs.getD j 0, 0, none⟩) (h.size j hj)).trans (h.cell j hj),
   fun j hj => by
    obtain ⟨h1, c, t, h2⟩ := h.blk j hj
    exact ⟨Nat.lt_of_lt_of_le h1 hb.size, c, t, (hb.block _ h1).trans h2⟩, h.ne⟩

theorem es_pointee : Tryz.prog.underlying 297 = some (.pointer 299) := by kernel_rfl
theorem es_facts : ∃ ms i j, Tryz.prog.underlying 46 = some (.interface ms) ∧ Tryz.prog.info? 297 = some i ∧ i.comparable = true ∧ Tryz.prog.info? 299 = some j ∧ j.size ≠ 0 := by
  have h1 : (match Tryz.prog.underlying 46 with | some (.interface _) => true | _ => false) = true := by kernel_rfl
  have h2 : (Tryz.prog.info? 297).map (·.comparable) = some true := by kernel_rfl
  have h3 : (Tryz.prog.info? 299).map (·.size) = some 1 := by kernel_rfl
  obtain ⟨i, h4, h5⟩ := Option.map_eq_some_iff.1 h2
  obtain ⟨j, h6, h7⟩ := Option.map_eq_some_iff.1 h3
  cases hu : Tryz.prog.underlying 46 with
  | none => rw [hu] at h1; cases h1
  | some u =>
    rw [hu] at h1
    cases u with
    | interface ms => exact ⟨ms, i, j, rfl, h4, h5, h6, by omega⟩
    | _ => cases h1
theorem eql_same (a : Addr) (w : World) : (binOp .eql 46 (errV a) (errV a)).run Tryz.prog w = .ok (.bool true) w := by
  obtain ⟨ms, i, j, h1, h2, h3, h4, h5⟩ := es_facts
  exact run_eql_iface_ptr_same w a h1 es_pointee h2 h3 h4
theorem eql_other (a b : Addr) (w : World) (hne : a ≠ b) (ha : ∃ c t, w.heap[a.block]? = some (.cells c t (0, 0))) (hb : ∃ c t, w.heap[b.block]? = some (.cells c t (0, 0))) : (binOp .eql 46 (errV a) (errV b)).run Tryz.prog w = .ok (.bool false) w := by
  obtain ⟨ms, i, j, h1, h2, h3, h4, h5⟩ := es_facts
  obtain ⟨c, t, hc⟩ := ha
  obtain ⟨c', t', hc'⟩ := hb
  exact run_eql_iface_ptr_other w h1 es_pointee h2 h3 h4 h5 hne hc hc'
theorem eql_nil (a : Addr) (w : World) : (binOp .eql 46 (errV a) .nilIface).run Tryz.prog w = .ok (.bool false) w := by
  obtain ⟨ms, i, j, h1, h2, h3, h4, h5⟩ := es_facts
  have h : ∀ d : Nat, (Op.equalIn (d + 1) 46 (errV a) .nilIface).run Tryz.prog w = .ok false w := fun d => by simp [Op.equalIn, run_underlying h1, errV]
  simp only [binOp]
  simp [Op.equal, Op.maxDepth, h 9999]

theorem alike_eq (a : Addr) (w : World) :
    Calls Tryz.prog 174 #[errV a, errV a] w fun e w' => e = .returned (.bool true) ∧ w = w' := by
  have k1 := eql_nil a
  have k2 := eql_same a
  unfold errV at *
  go_enter Tryz.func174, Tryz.ntmps174
  go_wp2_with fail
  go_ret
  exact ⟨rfl, rfl⟩
theorem alike_ne (a b : Addr) (w : World) (hne : a ≠ b) (ha : ∃ c t, w.heap[a.block]? = some (.cells c t (0, 0))) (hb : ∃ c t, w.heap[b.block]? = some (.cells c t (0, 0))) :
    Calls Tryz.prog 174 #[errV a, errV b] w fun e w' => e = .returned (.bool false) ∧ w = w' := by
  have k1 := eql_nil a
  have k2 := eql_nil b
  have k3 := eql_other a b w hne ha hb
  clear hne ha hb
  unfold errV at *
  go_enter Tryz.func174, Tryz.ntmps174
  go_wp2_with fail
  go_ret
  exact ⟨rfl, rfl⟩
def errCells (p : Nat → Addr) : Array Value := #[errV (p 0), errV (p 1), errV (p 2), errV (p 3), errV (p 4), errV (p 5), errV (p 6), errV (p 7), errV (p 8), errV (p 9), errV (p 10), errV (p 11), errV (p 12), errV (p 13), errV (p 14), errV (p 15), errV (p 16), errV (p 17), errV (p 18)]
theorem errCells_at (p : Nat → Addr) (j : Nat) (hj : j < 19) : (errCells p)[j]? = some (errV (p j)) := by
  match j, hj with
  | 0, _ => rfl
  | 1, _ => rfl
  | 2, _ => rfl
  | 3, _ => rfl
  | 4, _ => rfl
  | 5, _ => rfl
  | 6, _ => rfl
  | 7, _ => rfl
  | 8, _ => rfl
  | 9, _ => rfl
  | 10, _ => rfl
  | 11, _ => rfl
  | 12, _ => rfl
  | 13, _ => rfl
  | 14, _ => rfl
  | 15, _ => rfl
  | 16, _ => rfl
  | 17, _ => rfl
  | 18, _ => rfl
  | j + 19, h => omega

set_option maxHeartbeats 1000000 in
theorem sentinels_any (w : World) (p : Nat → Addr) (h : Sents w p) :
    Calls Tryz.prog 173 #[] w fun e w' => e = .returned (.slice (some ⟨w.heap.size, 0, none⟩) 19 19) ∧ w.alloc (.cells (errCells p) 46) = w' := by
  have c0 : w.cell? ⟨8, 0, none⟩ = some (errV (p 0)) := h.cell 0 (by omega)
  have c1 : w.cell? ⟨9, 0, none⟩ = some (errV (p 1)) := h.cell 1 (by omega)
  have c2 : w.cell? ⟨2, 0, none⟩ = some (errV (p 2)) := h.cell 2 (by omega)
  have c3 : w.cell? ⟨5, 0, none⟩ = some (errV (p 3)) := h.cell 3 (by omega)
  have c4 : w.cell? ⟨3, 0, none⟩ = some (errV (p 4)) := h.cell 4 (by omega)
  have c5 : w.cell? ⟨10, 0, none⟩ = some (errV (p 5)) := h.cell 5 (by omega)
  have c6 : w.cell? ⟨1, 0, none⟩ = some (errV (p 6)) := h.cell 6 (by omega)
  have c7 : w.cell? ⟨11, 0, none⟩ = some (errV (p 7)) := h.cell 7 (by omega)
  have c8 : w.cell? ⟨6, 0, none⟩ = some (errV (p 8)) := h.cell 8 (by omega)
  have c9 : w.cell? ⟨7, 0, none⟩ = some (errV (p 9)) := h.cell 9 (by omega)
  have c10 : w.cell? ⟨12, 0, none⟩ = some (errV (p 10)) := h.cell 10 (by omega)
  have c11 : w.cell? ⟨13, 0, none⟩ = some (errV (p 11)) := h.cell 11 (by omega)
  have c12 : w.cell? ⟨4, 0, none⟩ = some (errV (p 12)) := h.cell 12 (by omega)
  have c13 : w.cell? ⟨14, 0, none⟩ = some (errV (p 13)) := h.cell 13 (by omega)
  have c14 : w.cell? ⟨0, 0, none⟩ = some (errV (p 14)) := h.cell 14 (by omega)
  have c15 : w.cell? ⟨15, 0, none⟩ = some (errV (p 15)) := h.cell 15 (by omega)
  have c16 : w.cell? ⟨16, 0, none⟩ = some (errV (p 16)) := h.cell 16 (by omega)
  have c17 : w.cell? ⟨17, 0, none⟩ = some (errV (p 17)) := h.cell 17 (by omega)
  have c18 : w.cell? ⟨18, 0, none⟩ = some (errV (p 18)) := h.cell 18 (by omega)
  unfold errCells
  clear h
  unfold errV at *
  generalize p 0 = q0 at *
  generalize p 1 = q1 at *
  generalize p 2 = q2 at *
  generalize p 3 = q3 at *
  generalize p 4 = q4 at *
  generalize p 5 = q5 at *
  generalize p 6 = q6 at *
  generalize p 7 = q7 at *
  generalize p 8 = q8 at *
  generalize p 9 = q9 at *
  generalize p 10 = q10 at *
  generalize p 11 = q11 at *
  generalize p 12 = q12 at *
  generalize p 13 = q13 at *
  generalize p 14 = q14 at *
  generalize p 15 = q15 at *
  generalize p 16 = q16 at *
  generalize p 17 = q17 at *
  generalize p 18 = q18 at *
  go_enter Tryz.func173, Tryz.ntmps173
  go_wp2_with fail
  go_ret
  exact ⟨rfl, rfl⟩

theorem sentinel_any (w : World) (p : Nat → Addr) (h : Sents w p) (k : Nat) (hk : k < 19) :
    Calls Tryz.prog 141 #[errV (p k)] w fun e w' => e = .returned (.int .i64 ((101 + k : Nat) : Int)) ∧ Below w.heap.size w w' := by
  have HS := hideE h
  have hcell : ∀ j, j < 19 → (w.alloc (.cells (errCells p) 46)).cell? ⟨w.heap.size, j, none⟩ = some (errV (p j)) := fun j hj => by
    rw [World.cell?_alloc_mark]; exact errCells_at p j hj
  have hblk : ∀ j, j < 19 → ∃ c t, (w.alloc (.cells (errCells p) 46)).heap[(p j).block]? = some (.cells c t (0, 0)) := fun j hj => by
    obtain ⟨h1, c, t, h2⟩ := h.blk j hj
    exact ⟨c, t, by rw [Below.heap_alloc _ _ _ h1]; exact h2⟩
  have HC := hideE hcell
  have HB := hideE hblk
  have hbl : Below w.heap.size w (w.alloc (.cells (errCells p) 46)) := balloc (Below.refl _ _) _
  have HBL := hideE hbl
  have HSE := hideE (sentinels_any w p h)
  clear h hcell hblk hbl
  generalize hw1 : w.alloc (.cells (errCells p) 46) = w1 at *
  clear hw1
  go_enter Tryz.func141, Tryz.ntmps141
  go_wp2_with (go_at_call 173; refine HSE.out.mono ?_; rintro e w' ⟨rfl, rfl⟩)
  go_loopw [4] (fun i wr => ∃ j : Nat, j ≤ k ∧ i = .int .i64 j ∧ w1 = wr) (fun i _ => 19 - (intOf i).toNat)
  case atStart => exact ⟨0, Nat.zero_le _, rfl, rfl⟩
  case round =>
    obtain ⟨j, hj, rfl, rfl⟩ := hrel
    have hc := HC.out j (by omega)
    by_cases hjk : j = k
    · subst hjk
      have HA := hideE (alike_eq (p j) w1)
      unfold errV at *
      go_wp2_with (go_at_call 174; refine HA.out.mono ?_; rintro e w' ⟨rfl, rfl⟩)
      go_ret
      exact ⟨by simp, HBL.out⟩
    · have HA := hideE (alike_ne (p k) (p j) w1 (HS.out.ne k j hk (by omega) (fun e => hjk e.symm)) (HB.out k hk) (HB.out j (by omega)))
      unfold errV at *
      have hlt : j < k := by omega
      clear hjk
      go_wp2_with (go_at_call 174; refine HA.out.mono ?_; rintro e w' ⟨rfl, rfl⟩)
      go_roundw
      case rel => exact ⟨j + 1, by omega, by go_num, trivial⟩
      case measure => simp [intOf]; omega

end Go.Proofs.YtcmgppacipdnaaaGreatDoor

namespace Go.Proofs.YtcmgppacipdnaaaGreatDoor
open Go.RowKit

/-- A fault with nothing around it. -/
abbrev bareV (code : Int) : Value := .agg #[.int .i64 code, .bool false, .int .i64 0]

theorem bare_any (code : Int) (w : World) :
    Calls Tryz.prog 57 #[.int .i64 code] w fun e w' => e = .returned (bareV code) ∧ Below w.heap.size w w' := by
  go_enter Tryz.func57, Tryz.ntmps57
  go_wp2_with fail
  go_returns
  exact ⟨rfl, balloc (Below.refl _ _) _⟩
theorem sameFault_any (a b : Int) (w : World) :
    Calls Tryz.prog 102 #[bareV a, bareV b] w fun e w' => e = .returned (.bool (decide (a = b))) ∧ Below w.heap.size w w' := by
  unfold bareV
  by_cases h : a = b
  · subst h
    go_enter Tryz.func102, Tryz.ntmps102
    go_wp2_with fail
    go_ret
    exact ⟨by simp, balloc (balloc (Below.refl _ _) _) _⟩
  · have h1 : (a == b) = false := by simp [h]
    have hd : decide (a = b) = false := by simp [h]
    rw [hd]
    clear h hd
    go_enter Tryz.func102, Tryz.ntmps102
    go_wp2_with fail
    go_ret
    exact ⟨rfl, balloc (balloc (Below.refl _ _) _) _⟩

theorem blk3 {w w' : World} {a b c : Value} {t : TypeId} (hb : Below (w.alloc (.cells #[a, b, c] t)).heap.size (w.alloc (.cells #[a, b, c] t)) w') :
    w'.cell? ⟨w.heap.size, 0, none⟩ = some a ∧ w'.cell? ⟨w.heap.size, 1, none⟩ = some b ∧ w'.cell? ⟨w.heap.size, 2, none⟩ = some c ∧
    w'.frozen? ⟨w.heap.size, 0, none⟩ = false ∧ w'.frozen? ⟨w.heap.size, 1, none⟩ = false ∧ w'.frozen? ⟨w.heap.size, 2, none⟩ = false ∧ Below w.heap.size w w' := by
  have hblk := hb.block w.heap.size (by simp)
  rw [heap_alloc_new] at hblk
  refine ⟨?_, ?_, ?_, ?_, ?_, ?_, (balloc (Below.refl _ _) _).trans (hb.mono (by simp))⟩ <;> simp [World.cell?, World.frozen?, hblk]
/-- A block of three cells, stored into cell by cell, reads as what was stored. -/
theorem set3 {w' : World} {g : Nat} {a b c : Value} (x y z : Value) (c0 : w'.cell? ⟨g, 0, none⟩ = some a) (c1 : w'.cell? ⟨g, 1, none⟩ = some b) (c2 : w'.cell? ⟨g, 2, none⟩ = some c) :
    (w'.setCell ⟨g, 0, none⟩ x).cell? ⟨g, 0, none⟩ = some x ∧ ((w'.setCell ⟨g, 0, none⟩ x).setCell ⟨g, 1, none⟩ y).cell? ⟨g, 1, none⟩ = some y ∧
    (((w'.setCell ⟨g, 0, none⟩ x).setCell ⟨g, 1, none⟩ y).setCell ⟨g, 2, none⟩ z).cell? ⟨g, 2, none⟩ = some z := by
  refine ⟨World.cell?_setCell_same _ _ _ c0, World.cell?_setCell_same _ _ _ (u := b) ?_, World.cell?_setCell_same _ _ _ (u := c) ?_⟩
  · rw [World.cell?_setCell_other _ _ _ _ (by simp)]; exact c1
  · rw [World.cell?_setCell_other _ _ _ _ (by simp), World.cell?_setCell_other _ _ _ _ (by simp)]; exact c2
theorem bset {a w : World} (h : Below a.heap.size a w) (i : Nat) (v : Value) : Below a.heap.size a (w.setCell ⟨a.heap.size, i, none⟩ v) := h.setCell (Nat.le_refl _) v

/-- An error of errors.New is no error with a place. -/
theorem no_at (a : Addr) (W : World) : (Instr.typeAssert (errV a) 46 192 true).run Tryz.prog W = .ok (.tuple #[.pointer none, .bool false]) W := by
  kernel_rfl

theorem fault_sent (w : World) (p : Nat → Addr) (h : Sents w p) (k : Nat) (hk : k < 19) :
    Calls Tryz.prog 103 #[errV (p k)] w fun e w' => e = .returned (bareV ((101 + k : Nat) : Int)) ∧ Below w.heap.size w w' := by
  have k1 := eql_nil (p k)
  have k2 := no_at (p k)
  have HS := hideE h
  clear h
  have HSE := hideE (fun W hb => sentinel_any W p (HS.out.below hb) k hk)
  unfold errV at *
  go_enter Tryz.func103, Tryz.ntmps103
  go_wp2_with fail
  refine (HSE.out _ (balloc (Below.refl _ _) _)).mono ?_
  rintro e w1 ⟨rfl, hb⟩
  obtain ⟨c0, c1, c2, f0, f1, f2, hb'⟩ := blk3 hb
  have HB := hideE hb'
  have hz : w.heap.size < w1.heap.size := by have := hb.size; simp at this; omega
  clear hb hb'
  generalize hcode : ((101 + k : Nat) : Int) = code at *
  have HCODE := hideE hcode
  clear hcode
  go_wp2_with fail
  refine (bare_any code _).mono ?_
  rintro e w2 ⟨rfl, hb⟩
  have d0 := (hb.cell (p := ⟨w.heap.size, 0, none⟩) hz).trans c0
  have d1 := (hb.cell (p := ⟨w.heap.size, 1, none⟩) hz).trans c1
  have d2 := (hb.cell (p := ⟨w.heap.size, 2, none⟩) hz).trans c2
  have e0 := (hb.frozen (p := ⟨w.heap.size, 0, none⟩) hz).trans f0
  have e1 := (hb.frozen (p := ⟨w.heap.size, 1, none⟩) hz).trans f1
  have e2 := (hb.frozen (p := ⟨w.heap.size, 2, none⟩) hz).trans f2
  have HB2 := hideE (HB.out.trans (hb.mono HB.out.size))
  clear hb c0 c1 c2 f0 f1 f2 k1 k2
  go_wp2_with fail
  obtain ⟨s0, s1, s2⟩ := set3 (.int .i64 code) (.bool false) (.int .i64 0) d0 d1 d2
  refine bodyPost_ret (v := bareV code) (by simp [results, Tryz.results103, go_sem, s0, s1, s2]) rfl ⟨by rw [HCODE.out], bset (bset (bset HB2.out _ _) _ _) _ _⟩

/-- 'Is', by what 'Fault' answers. -/
theorem is_of (v : Value) (a c : Int) (w : World) (hf : ∀ W, Below w.heap.size w W → Calls Tryz.prog 103 #[v] W fun e w' => e = .returned (bareV a) ∧ Below W.heap.size W w') :
    Calls Tryz.prog 25 #[v, .int .i64 c] w fun e w' => e = .returned (.bool (decide (a = c))) ∧ Below w.heap.size w w' := by
  have HF := hideE hf
  clear hf
  go_enter Tryz.func25, Tryz.ntmps25
  go_wp2_with fail
  refine (bare_any c _).mono ?_
  rintro e w1 ⟨rfl, hb1⟩
  have HB1 := hideE hb1
  clear hb1
  go_wp2_with fail
  have same : Calls Tryz.prog 56 #[v, bareV c] w1 fun e w' => e = .returned (.bool (decide (a = c))) ∧ Below w.heap.size w w' := by
    go_enter Tryz.func56, Tryz.ntmps56
    go_wp2_with fail
    refine wp_region_made [5, 6, 7, 8] (fun d => match d with | 5 => .is v | 6 => .is (bareV a) | 7 => .is (bareV c) | 8 => .is (.bool (decide (a = c))) | _ => .any) _ (by kernel_rfl) (by kernel_rfl) rfl (by kernel_rfl) ?_ ?_
    · simp only [List.size_toArray, List.length_cons, List.length_nil, List.take_succ_cons, List.take_zero, StepsOk]
      refine ⟨?_, ?_, ?_, ?_, trivial⟩
      all_goals
        intro ev w2 hb hev hd
        have ev0 : ev (.tmp 0) = v := hev _ (by simp)
        have ev3 : ev (.tmp 3) = .pointer (some ⟨w1.heap.size, 0, none⟩) := hev _ (by simp)
        have evf : ∀ f, ev (.func f) = .func (.func f) #[] #[] := fun f => hev _ (by simp)
        obtain ⟨c0, c1, c2, -, -, -, hb'⟩ := blk3 hb
        have HB' := hideE hb'
        clear hev hb hb'
        simp [DepsOk, Known.is] at hd
        try simp [OpRuns, execOp, go_sem, Known.is, Below.refl, *]
      · exact HF.out _ (HB1.out.trans (HB'.out.mono HB1.out.size))
      · exact sameFault_any a c w2
    · intro f w2 hb hf
      obtain ⟨c0, c1, c2, -, -, -, hb'⟩ := blk3 hb
      have HB' := hideE (HB1.out.trans (hb'.mono HB1.out.size))
      have e8 : f 8 = .bool (decide (a = c)) := hf 8 (by simp)
      clear hf hb hb' c0 c1 c2
      generalize hdd : decide (a = c) = d at *
      have HD := hideE hdd
      clear hdd
      simp only [puts]
      go_wp2_with fail
      go_ret
      exact ⟨by rw [HD.out]; rfl, HB'.out⟩
  refine same.mono ?_
  rintro e w2 ⟨rfl, hb2⟩
  have HB2 := hideE hb2
  clear hb2
  generalize hdd : decide (a = c) = d at *
  have HD := hideE hdd
  clear hdd
  go_wp2_with fail
  go_ret
  exact ⟨by rw [HD.out]; rfl, HB2.out⟩

theorem is_sent (w : World) (p : Nat → Addr) (h : Sents w p) (k : Nat) (hk : k < 19) (c : Int) :
    Calls Tryz.prog 25 #[errV (p k), .int .i64 c] w fun e w' => e = .returned (.bool (decide (((101 + k : Nat) : Int) = c))) ∧ Below w.heap.size w w' :=
  is_of (errV (p k)) _ c w fun W hb => fault_sent W p (h.below hb) k hk
end Go.Proofs.YtcmgppacipdnaaaGreatDoor
