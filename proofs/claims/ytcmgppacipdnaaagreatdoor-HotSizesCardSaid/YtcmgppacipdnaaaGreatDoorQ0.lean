/-
  Plain facts on the sums of Castagnoli's polynomial, over bit vectors: nothing of any program is named here.
  Plain facts: a byte by the two short tables is a byte bit by bit; products; joins. Nothing of any program is named here.
  Words for the walks: bytes as the numbers that they are, slices of bytes as memory has them. Nothing of any program is named here.
  Words for the walks: bytes and 32 bit words as the numbers that they are, and what the operations on them come to. Nothing of any program is named here.
  The walk through package crc's More.
  Bytes in memory of the call's own: made, copied into, appended to, written; and read again. Words and laws for the walks, over the kit's laws on rows.
-/
import Derived.Laws.BitsAllLaws
import Derived.WalkKit
import Derived.ProofKit
import Derived.Below
import Derived.Deep.Draws
import Derived.Test.YtcmgppacipdnaaaGreatDoorRows
import Derived.BigQuiet
import Derived.Deep.QuietTactic
import Derived.Outline
import Derived.Deep.LoopGhost
import Derived.LoopTactic
import Derived.Maps.AppendAt
import Derived.Laws.CopyOwn
import Derived.OwnWalk
import Derived.RegionTactic
namespace Go.Proofs.YtcmgppacipdnaaaGreatDoor.Crc

/-- The polynomial, turned round. -/
def poly : BitVec 32 := 0x82f63b78#32
/-- One bit further on. -/
def st (c : BitVec 32) : BitVec 32 := (c >>> 1) ^^^ (if c.getLsbD 0 then poly else 0#32)
/-- So many bits further on. -/
def sts : Nat → BitVec 32 → BitVec 32
  | 0, c => c
  | n + 1, c => sts n (st c)
/-- One byte more. -/
def one (c : BitVec 32) (x : UInt8) : BitVec 32 := sts 8 (c ^^^ x.toBitVec.setWidth 32)
/-- Many bytes more. -/
def feed (c : BitVec 32) (l : List UInt8) : BitVec 32 := l.foldl one c
/-- The sum of a text. -/
def sum (l : List UInt8) : BitVec 32 := ~~~(feed (~~~0#32) l)
/-- The sum gone on with. -/
def more (s : BitVec 32) (l : List UInt8) : BitVec 32 := ~~~(feed (~~~s) l)

theorem st_xor (a b : BitVec 32) : st (a ^^^ b) = st a ^^^ st b := by
  have hs : (a ^^^ b) >>> 1 = (a >>> 1) ^^^ (b >>> 1) := BitVec.ushiftRight_xor_distrib a b 1
  unfold st
  rw [BitVec.getLsbD_xor, hs]
  rcases Bool.eq_false_or_eq_true (a.getLsbD 0) with ha | ha <;> rcases Bool.eq_false_or_eq_true (b.getLsbD 0) with hb | hb <;> simp only [ha, hb] <;> simp
  · rw [show a >>> 1 ^^^ poly ^^^ (b >>> 1 ^^^ poly) = a >>> 1 ^^^ b >>> 1 ^^^ (poly ^^^ poly) by ac_rfl]; simp
  · ac_rfl
  · ac_rfl

theorem sts_xor (n : Nat) (a b : BitVec 32) : sts n (a ^^^ b) = sts n a ^^^ sts n b := by
  induction n generalizing a b with
  | zero => rfl
  | succ n ih => simp only [sts, st_xor]; exact ih _ _

theorem feed_append (c : BitVec 32) (l m : List UInt8) : feed c (l ++ m) = feed (feed c l) m := by simp [feed, List.foldl_append]
theorem feed_snoc (c : BitVec 32) (l : List UInt8) (x : UInt8) : feed c (l ++ [x]) = one (feed c l) x := by simp [feed, List.foldl_append]

theorem more_sum (l m : List UInt8) : more (sum l) m = sum (l ++ m) := by
  unfold more sum
  rw [BitVec.not_not, feed_append]
theorem sum_nil : sum [] = 0#32 := by decide

end Go.Proofs.YtcmgppacipdnaaaGreatDoor.Crc

namespace Go.Proofs.YtcmgppacipdnaaaGreatDoor.Crc

def lowT : List Nat := [0, 4067132163, 3778769143, 324072436, 3348797215, 904991772, 648144872, 3570033899, 2329499855, 2024987596, 1809983544, 2575936315, 1296289744, 3207089363, 2893594407, 1578318884]
def highT : List Nat := [0, 274646895, 549293790, 820201905, 1098587580, 1361435347, 1640403810, 1905808397, 2197175160, 2460548119, 2722870694, 2987750089, 3280807620, 3553878443, 3811616794, 4084100981]
def low (y : UInt8) : BitVec 32 := BitVec.ofNat 32 (lowT.getD (y &&& 15).toNat 0)
def high (y : UInt8) : BitVec 32 := BitVec.ofNat 32 (highT.getD (y >>> 4).toNat 0)
/-- The lowest byte. -/
def u8 (c : BitVec 32) : UInt8 := UInt8.ofBitVec (c.setWidth 8)

theorem sts_shift (n : Nat) (v : BitVec 32) (h : ∀ i, i < n → v.getLsbD i = false) : sts n v = v >>> n := by
  induction n generalizing v with
  | zero => simp [sts]
  | succ n ih =>
    have h0 := h 0 (by omega)
    have e : st v = v >>> 1 := by unfold st; rw [h0]; simp
    simp only [sts]
    rw [e, ih (v >>> 1) (fun i hi => by rw [BitVec.getLsbD_ushiftRight]; exact h _ (by omega)), ← BitVec.shiftRight_add, Nat.add_comm]

theorem byte_tab : ∀ n : Fin 256, sts 8 ((BitVec.ofNat 8 n.val).setWidth 32) = BitVec.ofNat 32 (lowT.getD (n.val % 16) 0) ^^^ BitVec.ofNat 32 (highT.getD (n.val / 16) 0) := by decide +kernel

theorem and15 (y : UInt8) : (y &&& 15).toNat = y.toNat % 16 := by
  rw [UInt8.toNat_and]; exact Nat.and_two_pow_sub_one_eq_mod y.toNat 4
theorem shr4 (y : UInt8) : (y >>> 4).toNat = y.toNat / 16 := by
  rw [UInt8.toNat_shiftRight]; simp [Nat.shiftRight_eq_div_pow]

theorem byte_tab' (y : UInt8) : sts 8 (y.toBitVec.setWidth 32) = low y ^^^ high y := by
  have h := byte_tab ⟨y.toNat, y.toNat_lt⟩
  unfold low high
  rw [and15, shr4]
  rw [← h]
  congr 2
  apply BitVec.eq_of_toNat_eq
  simp

/-- The step by the tables. -/
def tab (c : BitVec 32) (x : UInt8) : BitVec 32 := (c >>> 8 ^^^ low (x ^^^ u8 c)) ^^^ high (x ^^^ u8 c)

theorem tab_eq (c : BitVec 32) (x : UInt8) : tab c x = one c x := by
  unfold tab one
  have hs : c ^^^ x.toBitVec.setWidth 32 = ((c >>> 8) <<< 8) ^^^ ((x ^^^ u8 c).toBitVec.setWidth 32) := by
    apply BitVec.eq_of_getLsbD_eq
    intro i hi
    simp only [BitVec.getLsbD_xor, BitVec.getLsbD_shiftLeft, BitVec.getLsbD_ushiftRight, BitVec.getLsbD_setWidth, UInt8.toBitVec_xor, u8]
    by_cases h8 : i < 8
    · simp [h8, hi, Bool.xor_comm]
    · have : 8 + (i - 8) = i := by omega
      simp [h8, hi, this, BitVec.getLsbD_of_ge x.toBitVec i (by omega)]
  rw [hs, sts_xor, byte_tab']
  rw [sts_shift 8 _ (fun i hi => by rw [BitVec.getLsbD_shiftLeft]; simp [hi])]
  have hb : (c >>> 8) <<< 8 >>> 8 = c >>> 8 := by
    apply BitVec.eq_of_getLsbD_eq
    intro i hi
    simp only [BitVec.getLsbD_ushiftRight, BitVec.getLsbD_shiftLeft]
    by_cases h : 8 + i < 32
    · simp [h]
    · simp [h, BitVec.getLsbD_of_ge c (8 + i) (by omega)]
  rw [hb, BitVec.xor_assoc]

/-! ### Products: 'a' times 'b', the rest of it -/

/-- Whatever is sealed has one sum. -/
def little (c : BitVec 32) : List UInt8 := [u8 c, u8 (c >>> 8), u8 (c >>> 16), u8 (c >>> 24)]
end Go.Proofs.YtcmgppacipdnaaaGreatDoor.Crc

namespace Go.Proofs.YtcmgppacipdnaaaGreatDoor
open Go.RowKit

theorem hide {p : Prop} (h : p) : Hid p := h

/-- A byte as the number that it is. -/
def B (x : UInt8) : Int := (x.toNat : Int)
theorem B_lo (c : UInt8) : 0 ≤ B c := by unfold B; omega
theorem B_hi (c : UInt8) : B c < 256 := by unfold B; have := c.toNat_lt; omega
theorem B_inj {a b : UInt8} (h : B a = B b) : a = b := by unfold B at h; exact UInt8.toNat_inj.1 (by omega)
theorem x8 (a b : UInt8) : bits .xor .u8 (B a) (B b) = B (a ^^^ b) := by
  unfold B
  rw [u8_xor_nat _ _ a.toNat_lt b.toNat_lt]; simp
theorem and8_15 (a : UInt8) : bits .and .u8 (B a) 15 = B (a &&& 15) := by
  unfold B
  rw [show (15 : Int) = ((15 : Nat) : Int) from rfl, u8_and_nat _ _ a.toNat_lt (by omega)]; simp
/-- A byte as an index. -/
def idx (c : UInt8) : Nat := c.toNat
theorem BtoNat (c : UInt8) : (B c).toNat = idx c := by unfold B idx; simp
theorem ofInt_i64 (a : Nat) (ha : a < 9223372036854775808) : (BitVec.ofInt 64 (a : Int)).toNat = a := by
  rw [BitVec.ofInt_natCast, BitVec.toNat_ofNat]; exact Nat.mod_eq_of_lt (by omega)
/-- A slice that reads as bytes: nil, empty or not. -/
def Reads (w : World) (A : Option Addr) (l : List UInt8) : Prop :=
  l = [] ∨ ∃ b off, A = some ⟨b, off, none⟩ ∧ b < w.heap.size ∧ ∀ k, k < l.length → w.cell? ⟨b, off + k, none⟩ = some (.int .u8 (B (l.getD k 0)))

/-- One text of a list of texts: where it lies, its room, its bytes. -/
structure Part where
  a : Option Addr
  cap : Nat
  l : List UInt8
def Part.val (p : Part) : Value := .slice p.a p.l.length p.cap
def flat (ps : List Part) : List UInt8 := ps.flatMap (·.l)
/-- A slice that reads as texts. -/
def ReadsAll (w : World) (A : Option Addr) (ps : List Part) : Prop :=
  ps = [] ∨ ∃ b off, A = some ⟨b, off, none⟩ ∧ b < w.heap.size ∧ ∀ k (h : k < ps.length), w.cell? ⟨b, off + k, none⟩ = some (ps[k].val) ∧ ps[k].l.length ≤ 9223372036854775807 ∧ Reads w ps[k].a ps[k].l
theorem Reads.drewN {w : World} {A : Option Addr} {l : List UInt8} (h : Reads w A l) (n : Nat) : Reads (w.drewN n) A l := h

theorem below_drewN {B : Nat} {a w : World} (h : Below B a w) (n : Nat) : Below B a (w.drewN n) := ⟨h.os, h.tape, h.output, h.size, h.block⟩
theorem Reads.alloc {w : World} {A : Option Addr} {l : List UInt8} (h : Reads w A l) (o : Obj) : Reads (w.alloc o) A l := by
  rcases h with h | ⟨b, off, e, hb, hc⟩
  · exact .inl h
  · exact .inr ⟨b, off, e, by simp; omega, fun k hk => (World.cell?_alloc_lt w o ⟨b, off + k, none⟩ hb).trans (hc k hk)⟩
/-- A new block of bytes reads as them. -/
theorem Reads.new (w : World) (l : List UInt8) (e : TypeId) (fr : Nat × Nat) : Reads (w.alloc (.cells (l.map fun x => Value.int .u8 (B x)).toArray e fr)) (some ⟨w.heap.size, 0, none⟩) l :=
  .inr ⟨_, _, rfl, by simp, fun k hk => by
    rw [World.cell?_alloc_mark]
    simp [hk]⟩

theorem readsAll_slice (w : World) (a : Option Addr) (n cap g : Nat) (l : List UInt8) (e : TypeId) (hn : l.length = n) (hg : g = w.heap.size) (h : Reads w a l) (hl : n ≤ 9223372036854775807) :
    ReadsAll (w.alloc (.cells #[.slice a n cap] e)) (some ⟨g, 0, none⟩) [⟨a, cap, l⟩] := by
  subst hn hg
  refine .inr ⟨_, _, rfl, by simp, fun k hk => ?_⟩
  have hk0 : k = 0 := by simpa using hk
  subst hk0
  refine ⟨?_, hl, h.alloc _⟩
  rw [World.cell?_alloc_mark]; simp [Part.val]

theorem balloc {a w : World} (h : Below a.heap.size a w) (o : Obj) : Below a.heap.size a (w.alloc o) := h.alloc h.size o
end Go.Proofs.YtcmgppacipdnaaaGreatDoor

namespace Go.Proofs.YtcmgppacipdnaaaGreatDoor
open Go.RowKit Crc

/-- A word of 32 bits as the number that it is. -/
def U (c : BitVec 32) : Int := (c.toNat : Int)
theorem x32 (a b : BitVec 32) : bits .xor .u32 (U a) (U b) = U (a ^^^ b) := by
  unfold U
  rw [u32_xor_nat _ _ a.isLt b.isLt]; simp
theorem n32 (a : BitVec 32) : bits .xor .u32 IntKind.u32.max (U a) = U (~~~a) := by
  have := x32 (~~~0#32) a
  rw [show U (~~~0#32 : BitVec 32) = IntKind.u32.max from by decide] at this
  rw [this]; congr 1
theorem mod256 (c : BitVec 32) : U c % (256 : Int) = B (u8 c) := by
  unfold U B u8
  simp
theorem wrap8 (c : BitVec 32) : IntKind.u8.wrap (U c) = B (u8 c) := by
  rw [IntKind.wrap_u8, mod256]
theorem div256 (c : BitVec 32) : U c / (256 : Int) = U (c >>> 8) := by
  unfold U
  rw [BitVec.toNat_ushiftRight, Nat.shiftRight_eq_div_pow]; simp
theorem div16 (c : UInt8) : B c / (16 : Int) = B (c >>> 4) := by
  unfold B
  rw [shr4]; simp
theorem xs32 (a b : BitVec 32) : bits .xor .u32 (U a / (256 : Int)) (U b) = U (a >>> 8 ^^^ b) := by rw [div256, x32]
theorem Bd16toNat (c : UInt8) : (B c / (16 : Int)).toNat = idx (c >>> 4) := by rw [div16, BtoNat]
theorem Bd16_lo (c : UInt8) : 0 ≤ B c / 16 := by have := B_lo c; omega
theorem Bd16_hi (c : UInt8) : B c / 16 < 16 := by have := B_hi c; omega
theorem B15 (y : UInt8) : B (y &&& 15) < 16 := by unfold B; rw [and15]; omega
theorem B4 (y : UInt8) : B (y >>> 4) < 16 := by unfold B; rw [shr4]; have := y.toNat_lt; omega

theorem U_zero : U 0#32 = 0 := by decide
theorem mul2 (c : BitVec 32) : U c * (2 : Int) % (4294967296 : Int) = U (c <<< 1) := by
  unfold U
  rw [BitVec.toNat_shiftLeft, Nat.shiftLeft_eq]; simp
/-- A byte as a word. -/
def w8 (x : UInt8) : BitVec 32 := x.toBitVec.setWidth 32
end Go.Proofs.YtcmgppacipdnaaaGreatDoor

namespace Go.Proofs.YtcmgppacipdnaaaGreatDoor
open Go.RowKit Crc

attribute [local go_sem] BtoNat x32 n32 x8 and8_15 mod256 wrap8 xs32 Bd16toNat

/-
  The walk through package crc's More.
-/
structure Tabs (w : World) : Prop where
  lo : ∀ y : UInt8, w.cell? ⟨19, idx (y &&& 15), none⟩ = some (.int .u32 (U (low y)))
  hi : ∀ y : UInt8, w.cell? ⟨20, idx (y >>> 4), none⟩ = some (.int .u32 (U (high y)))

theorem cell_lt {w : World} {b o : Nat} {v : Value} (h : w.cell? ⟨b, o, none⟩ = some v) : b < w.heap.size := by
  rcases Nat.lt_or_ge b w.heap.size with h1 | h1
  · exact h1
  · exfalso
    simp [World.cell?, Array.getElem?_eq_none h1] at h
theorem Tabs.lt {w : World} (h : Tabs w) : 19 < w.heap.size ∧ 20 < w.heap.size := ⟨cell_lt (h.lo 0), cell_lt (h.hi 0)⟩
theorem take_snoc (l : List UInt8) (k : Nat) (h : k < l.length) : l.take (k + 1) = l.take k ++ [l[k]] := List.take_succ_eq_append_getElem h

set_option maxHeartbeats 400000 in
theorem more_any (A : Option Addr) (cap : Nat) (l : List UInt8) (s : BitVec 32) (w : World)
   (hl : l.length ≤ 9223372036854775807) (hr : Reads w A l) (ht : Tabs w) :
    Calls Tryz.prog 175 #[.int .u32 (U s), .slice A l.length cap] w fun e w' => e = .returned (.int .u32 (U (more s l))) ∧ ∃ n, w' = w.drewN n := by
  have HR := hide hr
  have HT := hide ht
  clear hr ht
  go_enter Tryz.func175, Tryz.ntmps175
  go_wp2
  go_loopw [5, 12] (fun r i wr => ∃ k : Nat, k ≤ l.length ∧ i = .int .i64 k ∧ r = .int .u32 (U (feed (~~~s) (l.take k))) ∧ ∃ n, wr = w.drewN n) (fun _ i _ => l.length - (intOf i).toNat)
  case atStart => exact ⟨0, Nat.zero_le _, rfl, rfl, 0, rfl⟩
  case round =>
    obtain ⟨k, hk, rfl, rfl, n, rfl⟩ := hrel
    by_cases hlt : k < l.length
    · have hs : U (feed (~~~s) (l.take (k + 1))) = U (tab (feed (~~~s) (l.take k)) l[k]) := by rw [take_snoc l k hlt, feed_snoc, tab_eq]
      have HS := hide hs
      clear hs
      generalize feed (~~~s) (l.take k) = C at *
      rcases HR.out with rfl | ⟨b, off, rfl, hb, hc⟩
      · simp at hlt
      have hcell := hc k hlt
      clear hc
      have hlo := HT.out.lo (l[k] ^^^ u8 C)
      have hhi := HT.out.hi (l[k] ^^^ u8 C)
      have b1 := B_lo ((l[k] ^^^ u8 C) &&& 15)
      have b2 := B15 (l[k] ^^^ u8 C)
      have b3 := Bd16_lo (l[k] ^^^ u8 C)
      have b4 := Bd16_hi (l[k] ^^^ u8 C)
      go_wp2
      go_quiet (fail)
      go_wp2
      go_roundw
      case rel => exact ⟨k + 1, by omega, by go_num, by rw [HS.out]; rfl, _, rfl⟩
      case measure => simp [intOf]; omega
    · have : k = l.length := by omega
      subst this
      go_wp2
      go_ret
      exact ⟨by rw [List.take_length]; rfl, n, rfl⟩
end Go.Proofs.YtcmgppacipdnaaaGreatDoor

namespace Go.Proofs.YtcmgppacipdnaaaGreatDoor
open Go.RowKit

def byteV (x : UInt8) : Value := .int .u8 (B x)
def cells (l : List UInt8) : List Value := l.map byteV
theorem cells_len (l : List UInt8) : (cells l).length = l.length := by simp [cells]
theorem cells_one (l : List UInt8) : ∀ u ∈ cells l, u.oneCell' = true := by
  intro u hu
  obtain ⟨x, _, rfl⟩ := List.mem_map.1 hu
  rfl
theorem byte_info : (Tryz.prog.info? 5).map (fun i => (i.zero, i.size, i.bytes)) = some (some (.int .u8 0), 1, 1) := by kernel_rfl
theorem byte_size : (Tryz.prog.info? 5).map (·.size) = some 1 := by kernel_rfl

/-- A slice value that the call owns: its bytes. -/
def Own (w : World) (base : Nat) (v : Value) (l : List UInt8) : Prop := w.ownsRow base 5 1 v l.length (cells l)

theorem Own.nil (w : World) (base : Nat) : Own w base (.slice none 0 0) [] := World.ownsRow_nil w base _ 1
theorem Own.alloc {w : World} {base : Nat} {v : Value} {l : List UInt8} (h : Own w base v l) (o : Obj) : Own (w.alloc o) base v l := World.ownsRow.alloc h o
theorem Own.drewN {w : World} {base : Nat} {v : Value} {l : List UInt8} (h : Own w base v l) (n : Nat) : Own (w.drewN n) base v l := h
theorem Own.lt {w : World} {base : Nat} {v : Value} {l : List UInt8} (h : Own w base v l) : ∀ k, v.ownBlock = some k → base ≤ k ∧ k < w.heap.size := World.ownsRow.lt h
/-- It stays where all below a block beyond it stays. -/
theorem Own.below {w w' : World} {base C : Nat} {v : Value} {l : List UInt8} (h : Own w base v l) (hb : Below C w w') (hC : w.heap.size ≤ C) : Own w' base v l := by
  obtain ⟨h1, h2⟩ := h
  refine ⟨h1, ?_⟩
  rcases h2 with h2 | ⟨g, cap, cur, hv, hg, hh, r⟩
  · exact .inl h2
  · have hlt : g < w.heap.size := by
      rcases Nat.lt_or_ge g w.heap.size with h | h
      · exact h
      · rw [Array.getElem?_eq_none h] at hh; cases hh
    exact .inr ⟨g, cap, cur, hv, hg, (hb.block g (by omega)).trans hh, r⟩
theorem Own.mono {w : World} {base base' : Nat} {v : Value} {l : List UInt8} (h : Own w base v l) (hb : base' ≤ base) : Own w base' v l := by
  obtain ⟨h1, h2⟩ := h
  refine ⟨h1, ?_⟩
  rcases h2 with h2 | ⟨g, cap, cur, hv, hg, r⟩
  · exact .inl h2
  · exact .inr ⟨g, cap, cur, hv, by omega, r⟩
/-- What is owned is a slice that reads as its bytes. -/
theorem Own.reads {w : World} {base : Nat} {v : Value} {l : List UInt8} (h : Own w base v l) : ∃ A c, v = .slice A l.length c ∧ Reads w A l ∧ (A = none → l = [] ∧ c = 0) := by
  obtain ⟨_, h2⟩ := h
  rcases h2 with ⟨rfl, h0⟩ | ⟨g, cap, cur, rfl, hg, hh, hn, hm, hs, ht⟩
  · obtain rfl := List.eq_nil_of_length_eq_zero h0
    exact ⟨none, 0, rfl, .inl rfl, fun _ => ⟨rfl, rfl⟩⟩
  · refine ⟨_, _, rfl, .inr ⟨g, 0, rfl, ?_, fun k hk => ?_⟩, fun e => by cases e⟩
    · rcases Nat.lt_or_ge g w.heap.size with h | h
      · exact h
      · rw [Array.getElem?_eq_none h] at hh; cases hh
    · have e : cur.toList[k]? = some (byteV l[k]) := by
        have e2 : (cur.toList.take (l.length * 1))[k]? = some (byteV l[k]) := by rw [ht]; simp [cells, hk]
        rw [List.getElem?_take] at e2
        rwa [if_pos (by omega)] at e2
      have e3 : cur[k]? = some (byteV l[k]) := by simpa using e
      simp only [World.cell?, hh, Nat.zero_add]
      rw [e3]
      simp [byteV, List.getD, hk]

theorem Reads.below {w w' : World} {C : Nat} {A : Option Addr} {l : List UInt8} (h : Reads w A l) (hb : Below C w w') (hC : w.heap.size ≤ C) : Reads w' A l := by
  rcases h with h | ⟨b, off, e, hlt, hc⟩
  · exact .inl h
  · exact .inr ⟨b, off, e, by have := hb.size; omega, fun k hk => (hb.cell (p := ⟨b, off + k, none⟩) (by show b < C; omega)).trans (hc k hk)⟩
/-- The new cells of a slice that reads as bytes. -/
theorem Reads.news {w : World} {ad : Addr} {l : List UInt8} (h : Reads w (some ad) l) : ∀ j u, (cells l)[j]? = some u → w.cell? (ad.add j) = some u := by
  intro j u hu
  rcases h with rfl | ⟨b, off, e, hb, hc⟩
  · simp [cells] at hu
  · obtain rfl := Option.some.inj e
    have hj : j < l.length := by
      have := (List.getElem?_eq_some_iff.1 hu).1
      rwa [cells_len] at this
    rw [show (⟨b, off, none⟩ : Addr).add j = ⟨b, off + j, none⟩ from by rw [Addr.add_lit]]
    rw [hc j hj]
    simpa [cells, hj, byteV, List.getD] using hu

/-- A new block whose cells are bytes reads as them. -/
theorem Reads.made (w : World) (l : List UInt8) (cs : Array Value) (e : TypeId) (fr : Nat × Nat) (g : Nat) (hg : g = w.heap.size) (hc : (cells l).toArray = cs) : Reads (w.alloc (.cells cs e fr)) (some ⟨g, 0, none⟩) l := by
  subst hg hc
  exact Reads.new w l e fr
section
variable {w : World} {ops : Array Oper} {rest : List Oper} {o : Oper} {a : Act} {Q : Exit → Act → World → Prop}

/-- append(s, x...), s the call's own, x whatever reads as bytes. -/
theorem wpList_app (hgd : o.guard = none) (s x : Operand) (ho : o.op = .call { callee := .builtin .append, args := #[s, x], argTypes := #[67, 67] })
    (base : Nat) (v : Value) (l m : List UInt8) (hs : a.eval s = v) (hown : Own w base v l) (A : Option Addr) (n c : Nat) (hx : a.eval x = .slice A n c) (hn : m.length = n) (hr : Reads w A m)
    (hlen : l.length + n ≤ 1073741824) (hbase : base ≤ w.heap.size)
    (h : ∀ v' w', Own w' base v' (l ++ m) → w.grownBy w' v.ownBlock → (v'.ownBlock = v.ownBlock ∨ v'.ownBlock = some w.heap.size) → wpList Tryz.prog ops Q rest (a.put o.dst v') w') : wpList Tryz.prog ops Q (o :: rest) a w := by
  subst hn
  obtain ⟨i, hi, hz, hs1, hby⟩ := info_parts byte_info
  refine wpList_plain hgd fun K hK => ?_
  have key : ∃ v' w', (Builtin.append_ #[67, 67] o.type #[v, .slice A m.length c]).run Tryz.prog w = .ok v' w' ∧ Own w' base v' (l ++ m) ∧ w.grownBy w' v.ownBlock ∧ (v'.ownBlock = v.ownBlock ∨ v'.ownBlock = some w.heap.size) := by
    cases A with
    | none =>
      have h0 : m = [] := by
        rcases hr with h | ⟨_, _, h, _⟩
        · exact h
        · cases h
      subst h0
      refine ⟨v, w, ?_, by simpa using hown, World.grownBy.refl w _, .inl rfl⟩
      have u := Tryz.underlying67
      rcases hown.2 with ⟨rfl, _⟩ | ⟨g, cap, cur, rfl, _, _, hnc, _⟩
      · simp [Builtin.append_, run_underlying u, sizeOf, typeInfo, hi, Builtin.lenOf, Builtin.firstCells]
      · simp [Builtin.append_, run_underlying u, sizeOf, typeInfo, hi, Builtin.lenOf, Builtin.firstCells, hnc, storeCells]
    | some ad =>
      obtain ⟨v', w', hrun, h2, h3, _, h5⟩ := run_append_own_at (P := Tryz.prog) w base 67 o.type 5 i _ 1 1 Tryz.underlying67 hi hz hs1 hby rfl (by omega) v l.length (cells l) hown ad m.length c (cells m) (by rw [cells_len]; omega) hr.news (cells_one m)
        (by simp only [maxLen]; omega) (by omega) hbase
      refine ⟨v', w', hrun, ?_, h3, h5⟩
      unfold Own
      rw [List.length_append, show cells (l ++ m) = cells l ++ cells m from by simp [cells]]
      exact h2
  obtain ⟨v', w', hrun, h2, h3, h4⟩ := key
  unfold Oper.wp execOp
  simp only [ho, resolve, invoke, builtin, Sem.run_bind, Sem.run_pure, Result.andThen_ok, List.map_toArray, List.map_cons, List.map_nil, hs, hx, hrun]
  exact hK _ _ (h v' w' h2 h3 h4)

/-- make([]byte, n, c). -/
theorem wpList_mk (hgd : o.guard = none) (s x : Operand) (ho : o.op = Op.makeSlice 67 s x) (n c : Nat) (N C : Int) (hs : a.eval s = .int .i64 N) (hx : a.eval x = .int .i64 C) (hN : N = n) (hC : C = c) (hnc : n ≤ c) (hc : c ≤ 1073741824)
    (h : ∀ w', Own w' w.heap.size (.slice (some ⟨w.heap.size, 0, none⟩) n c) (List.replicate n 0) → Below w.heap.size w w' → w'.heap.size = w.heap.size + 1 → wpList Tryz.prog ops Q rest (a.put o.dst (.slice (some ⟨w.heap.size, 0, none⟩) n c)) w') : wpList Tryz.prog ops Q (o :: rest) a w := by
  obtain ⟨i, hi, hz, hs1, hby⟩ := info_parts byte_info
  refine wpList_plain hgd fun K hK => ?_
  have hrun := run_make (P := Tryz.prog) w 67 5 i _ Tryz.underlying67 hi hz .i64 .i64 n c (by omega) (by omega) (by rw [hby]; omega) (by omega)
  unfold Oper.wp execOp
  subst hN hC
  simp only [ho, Sem.run_bind, Sem.run_pure, Result.andThen_ok, hs, hx, hrun, Int.toNat_natCast]
  refine hK _ _ (h _ ?_ ((Below.refl _ _).alloc (Nat.le_refl _) _) (by simp))
  refine ⟨by simp [cells_len], .inr ⟨w.heap.size, c, _, by simp, Nat.le_refl _, heap_alloc_new _ _, by simpa using hnc, by simp only [maxLen]; omega, by simp [size_madeCells, hs1], ?_⟩⟩
  apply List.ext_getElem
  · simp [madeCells, cells, hs1]; omega
  · intro j h1 h2
    simp [madeCells, cells, hs1, Value.cells, byteV, B, Nat.mod_one]

/-- copy(d, s), d the call's own, s whatever reads as bytes. -/
theorem wpList_cp (hgd : o.guard = none) (d s : Operand) (ho : o.op = .call { callee := .builtin .copy, args := #[d, s], argTypes := #[67, 67] })
    (base : Nat) (l m : List UInt8) (D : Option Addr) (dn dc : Nat) (hd : a.eval d = .slice D dn dc) (hown : Own w base (.slice D dn dc) l) (A : Option Addr) (n c : Nat) (hx : a.eval s = .slice A n c) (hn : m.length = n) (hr : Reads w A m)
    (h : ∀ w', Own w' base (.slice D dn dc) (m.take l.length ++ l.drop m.length) → w.grownBy w' (Value.slice D dn dc).ownBlock → w'.heap.size = w.heap.size → wpList Tryz.prog ops Q rest (a.put o.dst (goInt (Nat.min m.length l.length))) w') : wpList Tryz.prog ops Q (o :: rest) a w := by
  subst hn
  have hdn : dn = l.length := by
    rcases hown.2 with ⟨e, h0⟩ | ⟨_, _, _, e, _⟩
    · injection e with _ e _; omega
    · injection e
  subst hdn
  by_cases h0 : Nat.min m.length l.length = 0
  · refine wpList_copy_nothing hgd d s _ _ ho _ Tryz.underlying67 byte_size D A _ dc _ c hd hx h0 ?_
    have e : m.take l.length ++ l.drop m.length = l := by
      rcases Nat.min_eq_zero_iff.1 h0 with e | e
      · obtain rfl := List.eq_nil_of_length_eq_zero e; simp
      · obtain rfl := List.eq_nil_of_length_eq_zero e; simp
    rw [h0] at h
    exact h w (by rw [e]; exact hown) (World.grownBy.refl _ _) rfl
  · have hpos : 0 < m.length ∧ 0 < l.length := by
      have := Nat.min_eq_zero_iff (m := m.length) (n := l.length)
      have h1 : ¬ (m.length = 0 ∨ l.length = 0) := fun h => h0 (this.2 h)
      omega
    rcases hown.2 with ⟨_, e⟩ | ⟨g, cap, cur, hv, hg, hh, hn, hm, hs, ht⟩
    · omega
    injection hv with hD _ hcap
    subst hD hcap
    cases A with
    | none =>
      rcases hr with h | ⟨_, _, h, _⟩
      · subst h; simp at hpos
      · cases h
    | some ad =>
    have hmin : (cells (m.take l.length)).length = Nat.min m.length l.length := by rw [cells_len, List.length_take, Nat.min_comm]
    have hle : Nat.min m.length l.length ≤ l.length := Nat.min_le_right _ _
    have hnews := hr.news
    have hmm : Nat.min m.length l.length = min m.length l.length := rfl
    refine wpList_copy_own hgd d s _ _ ho _ Tryz.underlying67 byte_size g 0 l.length dc ad m.length c hd hx cur _ hh (cells (m.take l.length)) hmin ?_ (by rw [hmin, Nat.zero_add]; omega) (cells_one _) ?_
    · intro j u hu
      have hj : j < (cells (m.take l.length)).length := (List.getElem?_eq_some_iff.1 hu).1
      apply hnews j u
      rw [← hu]
      simp only [cells, List.map_take]
      rw [List.getElem?_take, if_pos (by rw [hmin] at hj; omega)]
    · rw [hmin]
      refine h _ ?_ ⟨rfl, rfl, rfl, by simp [World.setRow], fun k hk hne => setRow_other w g k _ (by rintro rfl; exact hne rfl)⟩ (by simp [World.setRow])
      have hlen : (m.take l.length ++ l.drop m.length).length = l.length := by simp; omega
      refine ⟨by rw [cells_len]; omega, .inr ⟨g, dc, _, by rw [hlen], hg, setRow_heap w g _ _ _ _ hh, by rw [hlen]; exact hn, hm, ?_, ?_⟩⟩
      · have hsz : cur.toList.length = dc := by simpa using hs
        simp [cells]; simp at hsz; omega
      · have hcl : cur.toList.take l.length = cells l := by simpa using ht
        have hl2 : l.length ≤ cur.toList.length := by simp; omega
        rw [hlen]
        apply List.ext_getElem?
        intro j
        rw [Nat.mul_one, List.getElem?_take]
        by_cases hj : j < l.length
        · rw [if_pos hj]
          simp only [Nat.zero_add, List.take_zero, List.nil_append]
          by_cases hj2 : j < Nat.min m.length l.length
          · rw [List.getElem?_append_left (by rw [hmin]; exact hj2)]
            simp only [cells, List.map_append]
            rw [List.getElem?_append_left (by simp; have : Nat.min m.length l.length = min m.length l.length := rfl; omega)]
          · have e1 : Nat.min m.length l.length = m.length := by
              rcases Nat.le_total m.length l.length with h | h
              · exact Nat.min_eq_left h
              · have : Nat.min m.length l.length = l.length := Nat.min_eq_right h
                omega
            rw [e1] at hj2
            rw [List.getElem?_append_right (by rw [hmin, e1]; omega), hmin, e1]
            simp only [cells, List.map_append]
            rw [List.getElem?_append_right (by simp; omega)]
            simp only [List.length_map, List.length_take, List.map_drop]
            rw [List.getElem?_drop, List.getElem?_drop]
            have e2 : cur.toList[m.length + (j - m.length)]? = (cells l)[m.length + (j - m.length)]? := by
              rw [← hcl, List.getElem?_take, if_pos (by omega)]
            rw [e2]
            have e3 : min l.length m.length = m.length := by rw [Nat.min_comm]; exact e1
            rw [e3]
            rfl
        · rw [if_neg hj, List.getElem?_eq_none]
          rw [cells_len]; omega
end
end Go.Proofs.YtcmgppacipdnaaaGreatDoor
