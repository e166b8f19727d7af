/-
  The library's functions that package name calls, by the shelf's contracts.
  Package name: numbers in digits, offsets, segments' names.
  Package seg: follows; a segment with its disk; Append.
  A segment with its disk under a walk; Sync, Append.
  Package seg: raw, Raw.
-/
import Derived.Test.YtcmgppacipdnaaaGreatDoorQSgA
import Derived.Test.YtcmgppacipdnaaaGreatDoorQTable
import Derived.WalkKit
import Derived.ProofKit
import Derived.Below
import Derived.Shelf.Strings.Prefix
import Derived.Shelf.Strings.SlTrimAscii
import Derived.Shelf.Strings.SplitShaped
import Derived.Shelf.Strings.Repeat
import Derived.Shelf.Strings.OnBuilder
import Derived.Shelf.Strconv.AtoiAll
import Derived.Shelf.Strconv.ParseIntPublic10
import Derived.Shelf.Strconv.Itoa4
import Derived.Shelf.Slices.CompactS
import Derived.WalkSmall
import Derived.IntWalk
import Derived.Lib.Hide
import Derived.Outline
import Derived.Handy
import Derived.Shelf.SlSorted.Search
import Derived.Test.YtcmgppacipdnaaaGreatDoorQRcB
import Derived.StillTailTactics
namespace Go.Proofs.YtcmgppacipdnaaaGreatDoor
open Go.RowKit Go.Shelf

abbrev str (l : List UInt8) : Value := .string ⟨l.toArray⟩
theorem repeatX : Builder.Extra Tryz.prog lay_repeatF_ren := { sizeBuilder := by kernel_rfl, liesBuilder := by kernel_rfl, t5 := Tryz.underlying5, a5 := Tryz.isAgg5, z5 := Tryz.sizeOf5, v5 := Tryz.zeroValue5, infoByte := by kernel_rfl, cellsByte := by kernel_rfl, sizeByte := by kernel_rfl, neB5 := by decide }
/-- As many noughts. -/
theorem noughts_any (c : Nat) (w : World) (hc : c ≤ 1000) : Calls Tryz.prog 212 #[.string ⟨#[48]⟩, .int .i64 (c : Int)] w fun e w' => e = .returned (str (List.replicate c 48)) ∧ Below w.heap.size w w' :=
  (Any.strings_Repeat lay_repeatF repeatX ⟨#[48]⟩ c w (by omega) (by show 1 * c ≤ _; omega)).mono fun e w' ⟨he, hb⟩ => ⟨by
    rw [he]
    have h := Lib.repeatL_replicate 48 1 c
    rw [Nat.mul_one] at h
    show Ending.returned (str (Lib.repeatL [48] c)) = _
    rw [show ([48] : List UInt8) = List.replicate 1 48 from rfl, h], hb⟩
end Go.Proofs.YtcmgppacipdnaaaGreatDoor

namespace Go.Proofs.YtcmgppacipdnaaaGreatDoor
open Go.RowKit Go.Shelf

/-- The library's powers of ten. -/
def PowTab (w : World) : Prop := Lib.TabIs Tryz.prog w "internal/strconv.uint64pow10" .u64 Lib.pow10Tab
theorem PowTab.below {w w' : World} (h : PowTab w) (hb : Below w.heap.size w w') : PowTab w' := by
  have hg : Tryz.prog.globalNamed "internal/strconv.uint64pow10" = some 23 := by kernel_rfl
  have hlt : 23 < w.heap.size := by
    have h' := h
    unfold PowTab Lib.TabIs World.var? at h'
    rw [hg] at h'
    rcases Nat.lt_or_ge 23 w.heap.size with h1 | h1
    · exact h1
    · simp [Array.getElem?_eq_none h1] at h'
  exact var?_below hb hg hlt h

theorem itoa_any (n : Nat) (w : World) (hn : n ≤ 9223372036854775807) (ht : PowTab w) : Calls Tryz.prog 211 #[.int .i64 (n : Int), .int .i64 10] w fun e w' => e = .returned (str (Lib.decDigits n)) ∧ Below w.heap.size w w' :=
  (Any.strconv_FormatInt_10 lay_formatF (n : Int) (by omega) (by omega) w ht).mono fun e w' ⟨he, k, os, hw⟩ => ⟨by
    rw [he]
    unfold Lib.itoa
    rw [if_neg (by omega)]
    rfl, by rw [hw]; exact below_grown_sl w.heap.size w k os (Nat.le_refl _)⟩

set_option maxRecDepth 100000 in
theorem digits_any (k n : Nat) (m : Int) (hmm : m = ((k + 1 : Nat) : Int)) (w : World) (hk : k ≤ 17) (hn : n < 10 ^ (k + 1)) (ht : PowTab w) :
    Calls Tryz.prog 186 #[.int .i64 (n : Int), .int .i64 m] w fun e w' => e = .returned (str (Nm.dgs (k + 1) n)) ∧ Below w.heap.size w w' := by
  subst hmm
  obtain ⟨h1, h2⟩ := Nm.dgs_pad k n hn
  have hp : 10 ^ (k + 1) ≤ 10 ^ 18 := Nat.pow_le_pow_right (by decide) (by omega)
  have HI := Lib.hid (itoa_any n w (by omega) ht)
  obtain ⟨r, hr⟩ : ∃ r, r = Nm.dgs (k + 1) n := ⟨_, rfl⟩
  rw [← hr] at h2 ⊢
  generalize Lib.decDigits n = l at *
  obtain ⟨m, hm⟩ : ∃ m, m = k + 1 := ⟨_, rfl⟩
  rw [← hm] at h1 h2 ⊢
  have hm18 : m ≤ 18 := by omega
  have hw1 : IntKind.i64.wrap ((m : Int) - (l.length : Int)) = ((m - l.length : Nat) : Int) := by rw [IntWalk.i64_in _ (by omega)]; omega
  have H2 := Lib.hid h2
  clear ht hr hn hp h2 hm
  go_enter Tryz.func186, Tryz.ntmps186
  go_wp2_with (first
    | (go_at_call 211; refine HI.out.mono ?_; rintro e w1 ⟨rfl, hb1⟩; have HB1 := Lib.hid hb1; clear hb1)
    | (go_at_call 212; refine (noughts_any (m - l.length) w1 (by omega)).mono ?_; rintro e w2 ⟨rfl, hb2⟩; have HB2 := Lib.hid hb2; clear hb2)
    | fail)
  go_ret
  refine ⟨?_, HB1.out.trans (HB2.out.mono HB1.out.size)⟩
  rw [← H2.out]
  congr 2

def rightB (b : Int) : Bool := decide (Nm.right b)
theorem nRight_any (b : Int) (w : World) : Calls Tryz.prog 185 #[.int .i64 b] w fun e w' => e = .returned (.bool (rightB b)) ∧ w' = w := by
  by_cases h1 : 0 ≤ b
  · have d1 : decide (0 ≤ b) = true := by simp [h1]
    by_cases h2 : b ≤ 1099511627776
    · have d2 : decide (b ≤ 1099511627776) = true := by simp [h2]
      have hr : rightB b = true := by simp [rightB, Nm.right, h1, h2]
      rw [hr]
      go_enter Tryz.func185, Tryz.ntmps185
      go_wp2_with fail
      go_ret
      exact ⟨rfl, rfl⟩
    · have d2 : decide (b ≤ 1099511627776) = false := by simp; omega
      have hr : rightB b = false := decide_eq_false fun h => by unfold Nm.right at h; omega
      rw [hr]
      go_enter Tryz.func185, Tryz.ntmps185
      go_wp2_with fail
      go_ret
      exact ⟨rfl, rfl⟩
  · have d1 : decide (0 ≤ b) = false := by simp; omega
    have hr : rightB b = false := decide_eq_false fun h => by unfold Nm.right at h; omega
    rw [hr]
    go_enter Tryz.func185, Tryz.ntmps185
    go_wp2_with fail
    go_ret
    exact ⟨rfl, rfl⟩

set_option maxRecDepth 100000 in
theorem segment_any (b : Int) (w : World) (ht : PowTab w) : Calls Tryz.prog 156 #[.int .i64 b] w fun e w' => e = .returned (str (Nm.seg b)) ∧ Below w.heap.size w w' := by
  by_cases hr : Nm.right b
  · have hb := hr
    unfold Nm.right at hb
    obtain ⟨n, rfl⟩ := Int.eq_ofNat_of_zero_le hb.1
    have HD := Lib.hid (digits_any 12 n 13 rfl w (by omega) (by omega) ht)
    have HR := Lib.hid (nRight_any (n : Int) w)
    rw [show rightB (n : Int) = true from decide_eq_true hr] at HR
    have hs : Nm.seg (n : Int) = Nm.log ++ Nm.dgs 13 n := by unfold Nm.seg; rw [if_pos hr]; rfl
    have HS := Lib.hid hs
    generalize Nm.seg (n : Int) = r at *
    have hdl : (Nm.dgs 13 n).length ≤ 13 := by rw [Nm.dgs_length]; exact Nat.le_refl _
    generalize Nm.dgs 13 n = d at *
    clear hb hr ht hs
    go_enter Tryz.func156, Tryz.ntmps156
    go_wp2_with (first
      | (go_at_call 185; refine HR.out.mono ?_; rintro e w1 ⟨rfl, rfl⟩)
      | (go_at_call 186; refine HD.out.mono ?_; rintro e w2 ⟨rfl, hb2⟩; have HB2 := Lib.hid hb2; clear hb2)
      | fail)
    go_ret
    refine ⟨?_, HB2.out⟩
    rw [HS.out]
    congr 2
  · have HR := Lib.hid (nRight_any b w)
    rw [show rightB b = false from decide_eq_false hr] at HR
    have hs : Nm.seg b = [] := by unfold Nm.seg; rw [if_neg hr]
    rw [hs]
    clear hr ht hs
    go_enter Tryz.func156, Tryz.ntmps156
    go_wp2_with (first
      | (go_at_call 185; refine HR.out.mono ?_; rintro e w1 ⟨rfl, rfl⟩)
      | fail)
    go_ret
    exact ⟨rfl, Below.refl _ _⟩
end Go.Proofs.YtcmgppacipdnaaaGreatDoor

namespace Go.Proofs.YtcmgppacipdnaaaGreatDoor
open Go.RowKit

set_option maxRecDepth 100000 in
set_option maxHeartbeats 1000000 in
theorem sgFollows_any (X D : Nat) (s : Sg.St) (T : Nat → Prop) (base epoch : Int) (A : Option Addr) (n cap : Nat) (w : World) (h : SegAt w X D s T) (ho : Sg.Ok s) :
    Calls Tryz.prog 107 #[.pointer (some ⟨X, 0, none⟩), batV base epoch A n cap] w fun e w' => e = .returned (.bool (decide (base = (Sg.last s.edges).off) && decide ((Sg.last s.edges).ep ≤ epoch))) ∧ Below w.heap.size w w' := by
  have HE := hide (fun (W : World) (hw : Below w.heap.size w W) => sgEnd_any X D s T W (h.below hw) ho)
  have HL := hide (fun (W : World) (hw : Below w.heap.size w W) => sgLast_any X D s T W (h.below hw) ho)
  clear h ho
  generalize Sg.last s.edges = m at *
  obtain ⟨mo, mp, me, mt⟩ := m
  unfold egV at HL
  simp only at HL HE ⊢
  have hfd := fld2 mo mp me mt
  have hW1 : Below w.heap.size w (w.alloc (.cells #[.int .i64 base, .int .i64 epoch, .slice A n cap] 36)) := balloc (Below.refl _ _) _
  have HW1 := hide hW1
  have y0 : (w.alloc (.cells #[.int .i64 base, .int .i64 epoch, .slice A n cap] 36)).cell? ⟨w.heap.size, 0, none⟩ = some (.int .i64 base) := by rw [World.cell?_alloc_mark]; rfl
  have y1 : (w.alloc (.cells #[.int .i64 base, .int .i64 epoch, .slice A n cap] 36)).cell? ⟨w.heap.size, 1, none⟩ = some (.int .i64 epoch) := by rw [World.cell?_alloc_mark]; rfl
  have hBz : w.heap.size < (w.alloc (.cells #[.int .i64 base, .int .i64 epoch, .slice A n cap] 36)).heap.size := by simp
  obtain ⟨b0, hb0⟩ : ∃ b0, b0 = decide (base = mo) := ⟨_, rfl⟩
  obtain ⟨b1, hb1⟩ : ∃ b1, b1 = decide (me ≤ epoch) := ⟨_, rfl⟩
  have hq : (base == mo) = b0 := by rw [hb0]; rfl
  have hr : decide (me ≤ epoch) = b1 := hb1.symm
  rw [← hb0, ← hb1]
  clear hb0 hb1 hW1
  unfold batV
  go_enter Tryz.func107, Tryz.ntmps107
  go_upto_region 1 with fail
  generalize w.alloc (.cells #[.int .i64 base, .int .i64 epoch, .slice A n cap] 36) = W1 at *
  generalize w.heap.size = Bx at y0 y1 hBz ⊢
  cases b0 with
  | true =>
    refine wp_region_guard (G := fun a b : World => Below a.heap.size a b) ⟨fun w => Below.refl _ w, fun h k => h.trans (k.mono h.size)⟩ [5, 6, 7, 8, 9, 10, 11, 12, 13, 14, 15, 16, 17, 4] (fun d => match d with
      | 5 => .is (.pointer (some ⟨Bx, 0, none⟩)) | 6 => .is (.int .i64 base) | 7 => .is (.pointer (some ⟨X, 0, none⟩)) | 8 => .is (.int .i64 mo) | 9 => .is (.bool true) | 10 => .is (.bool true)
      | 11 => .is (.pointer (some ⟨Bx, 1, none⟩)) | 12 => .is (.int .i64 epoch) | 13 => .is (.pointer (some ⟨X, 0, none⟩)) | 14 => .is (.agg #[.int .i64 mo, .int .i64 mp, .int .i64 me, .int .i64 mt]) | 15 => .is (.int .i64 me) | 16 => .is (.bool b1) | 17 => .is (.bool b1) | _ => .is (.bool b1)) (by kernel_rfl) (by kernel_rfl) (by kernel_rfl) ?_ ?_
    · simp only [StepsG]
      refine ⟨?_, ?_, ?_, ?_, ?_, ?_, ?_, ?_, ?_, ?_, ?_, ?_, ?_, ?_, trivial⟩
      all_goals
        intro ev w6 hb hev hd
        have ev0 : ev (.tmp 0) = .pointer (some ⟨X, 0, none⟩) := hev _ (by simp)
        have ev3 : ev (.tmp 3) = .pointer (some ⟨Bx, 0, none⟩) := hev _ (by simp)
        have evf : ∀ f, ev (.func f) = .func (.func f) #[] #[] := fun f => hev _ (by simp)
        have evc : ∀ c, ev (.const c) = c := fun c => hev _ (by simp)
        have k0 := (hb.cell (p := ⟨Bx, 0, none⟩) hBz).trans y0
        have k1 := (hb.cell (p := ⟨Bx, 1, none⟩) hBz).trans y1
        have HB6 := hide (HW1.out.trans (((Below.refl W1.heap.size W1).drew.trans hb).mono HW1.out.size))
        clear hev hb y0 y1
        simp [DepsG, Held.is] at hd
        try simp [OpGuard, OpRuns, execOp, go_sem, Held.is, Below.refl, *]
      · exact HE.out w6 HB6.out
      · exact HL.out w6 HB6.out
    · intro f w9 hb hf
      have e4 : f 4 = .bool b1 := hf 4 (by simp)
      have HB9 := hide (HW1.out.trans (((Below.refl W1.heap.size W1).drew.trans hb).mono HW1.out.size))
      clear hf hb
      simp only [puts, Act.put, List.setIfInBounds_toArray, List.set_cons_succ, List.set_cons_zero]
      rw [e4]
      clear e4
      generalize f 5 = q5
      generalize f 6 = q6
      generalize f 7 = q7
      generalize f 8 = q8
      generalize f 9 = q9
      generalize f 10 = q10
      generalize f 11 = q11
      generalize f 12 = q12
      generalize f 13 = q13
      generalize f 14 = q14
      generalize f 15 = q15
      generalize f 16 = q16
      generalize f 17 = q17
      clear f
      go_wp2_with fail
      go_ret
      exact ⟨by simp, HB9.out⟩
  | false =>
    refine wp_region_guard (G := fun a b : World => Below a.heap.size a b) ⟨fun w => Below.refl _ w, fun h k => h.trans (k.mono h.size)⟩ [5, 6, 7, 8, 9, 10, 11, 12, 13, 14, 15, 16, 17, 4] (fun d => match d with
      | 5 => .is (.pointer (some ⟨Bx, 0, none⟩)) | 6 => .is (.int .i64 base) | 7 => .is (.pointer (some ⟨X, 0, none⟩)) | 8 => .is (.int .i64 mo) | 9 => .is (.bool false) | 10 => .is (.bool false)
      | 17 => .is (.bool false) | 4 => .is (.bool false) | _ => .is undef) (by kernel_rfl) (by kernel_rfl) (by kernel_rfl) ?_ ?_
    · simp only [StepsG]
      refine ⟨?_, ?_, ?_, ?_, ?_, ?_, ?_, ?_, ?_, ?_, ?_, ?_, ?_, ?_, trivial⟩
      all_goals
        intro ev w6 hb hev hd
        have ev0 : ev (.tmp 0) = .pointer (some ⟨X, 0, none⟩) := hev _ (by simp)
        have ev3 : ev (.tmp 3) = .pointer (some ⟨Bx, 0, none⟩) := hev _ (by simp)
        have evf : ∀ f, ev (.func f) = .func (.func f) #[] #[] := fun f => hev _ (by simp)
        have evc : ∀ c, ev (.const c) = c := fun c => hev _ (by simp)
        have k0 := (hb.cell (p := ⟨Bx, 0, none⟩) hBz).trans y0
        have k1 := (hb.cell (p := ⟨Bx, 1, none⟩) hBz).trans y1
        have HB6 := hide (HW1.out.trans (((Below.refl W1.heap.size W1).drew.trans hb).mono HW1.out.size))
        clear hev hb y0 y1
        simp [DepsG, Held.is] at hd
        try simp [OpGuard, OpRuns, execOp, go_sem, Held.is, Below.refl, *]
      exact HE.out w6 HB6.out
    · intro f w9 hb hf
      have e4 : f 4 = .bool false := hf 4 (by simp)
      have HB9 := hide (HW1.out.trans (((Below.refl W1.heap.size W1).drew.trans hb).mono HW1.out.size))
      clear hf hb
      simp only [puts, Act.put, List.setIfInBounds_toArray, List.set_cons_succ, List.set_cons_zero]
      rw [e4]
      clear e4
      generalize f 5 = q5
      generalize f 6 = q6
      generalize f 7 = q7
      generalize f 8 = q8
      generalize f 9 = q9
      generalize f 10 = q10
      generalize f 11 = q11
      generalize f 12 = q12
      generalize f 13 = q13
      generalize f 14 = q14
      generalize f 15 = q15
      generalize f 16 = q16
      generalize f 17 = q17
      clear f
      go_wp2_with fail
      go_ret
      exact ⟨by simp, HB9.out⟩
end Go.Proofs.YtcmgppacipdnaaaGreatDoor

namespace Go.Proofs.YtcmgppacipdnaaaGreatDoor
open Go.RowKit Go.Maps Go.Sort

/-- The errors that a segment tells. -/
abbrev SentsG (w : World) (p : Nat → Addr) : Prop := SentsOn (fun j => j < 10 ∨ j = 14) w p
theorem SentsG.d {w : World} {p : Nat → Addr} (h : SentsG w p) : SentsD w p := h.mono fun j hj => by omega
theorem SentsG.two {w : World} {p : Nat → Addr} (h : SentsG w p) : Sents2 w p := h.mono fun j hj => by omega
theorem SentsG.five {w : World} {p : Nat → Addr} (h : SentsG w p) : Sents5 w p := h.mono fun j hj => by omega
/-- A disk by S's blocks, a segment of it by T's. -/
structure SgW (w0 : World) (S T : Nat → Prop) (n Bd : Nat) (d : Dk.St) (X : Nat) (s : Sg.St) (w : World) : Prop where
  disk : SessS S w0 n Bd d w
  seg : SegAt w X Bd s T
  apart : ∀ k, T k → ¬ S k
  lo : ∀ k, T k → w0.heap.size ≤ k ∧ k < w.heap.size
  ok : Sg.Ok s
  nm : s.file.length ≤ 1000
/-- What a call leaves: a disk and a segment again, of the same blocks and new ones. -/
def SgPost (w0 : World) (S T : Nat → Prop) (n Bd : Nat) (d : Dk.St) (X : Nat) (s : Sg.St) (w w' : World) : Prop :=
  ∃ S' T', SgW w0 S' T' n Bd d X s w' ∧ Chg (fun k => S k ∨ T k) w w' ∧ ∀ k, (S' k ∨ T' k) → Up (fun k => S k ∨ T k) w w' k
section
variable {w0 w w' w2 : World} {S T : Nat → Prop} {n m Bd X : Nat} {d d' : Dk.St} {s s' : Sg.St}
theorem SgW.grow (h : SgW w0 S T n Bd d X s w) (hb : Below w.heap.size w w') : SgW w0 S T n Bd d X s w' :=
  ⟨h.disk.grow hb, h.seg.below hb, h.apart, fun k hk => by have := h.lo k hk; have := hb.size; omega, h.ok, h.nm⟩
theorem SgW.mono (h : SgW w0 S T n Bd d X s w) (hm : n ≤ m) : SgW w0 S T m Bd d X s w := ⟨h.disk.mono hm, h.seg, h.apart, h.lo, h.ok, h.nm⟩
theorem SgW.below (h : SgW w0 S T n Bd d X s w) : Below w0.heap.size w0 w := h.disk.below
/-- The disk alone was told something. -/
theorem SgW.told (h : SgW w0 S T n Bd d X s w) (hd : SessS (Up S w w') w0 m Bd d' w') (hc : Chg S w w') : SgW w0 (Up S w w') T m Bd d' X s w' :=
  ⟨hd, h.seg.same fun k hk hl => hc.block k hl (h.apart k hk), fun k hk hu => by rcases hu with hu | hu; exact h.apart k hk hu; have := (h.lo k hk).2; omega, fun k hk => by have := h.lo k hk; have := hc.size; omega, h.ok, h.nm⟩
theorem SgPost.of_grow (h : SgW w0 S T n Bd d X s w) (hb : Below w.heap.size w w') : SgPost w0 S T n Bd d X s w w' := ⟨S, T, h.grow hb, Chg.of_below hb, fun _k hk => .inl hk⟩
/-- The segment's own blocks changed. -/
theorem SgPost.of_seg (h : SgW w0 S T n Bd d X s w) (hs : SegAt w' X Bd s' (Up T w w')) (hc : Chg T w w') (ho : Sg.Ok s') (hf : s'.file = s.file) : SgPost w0 S T n Bd d X s' w w' := by
  have hcs := hc.size
  have hbs := h.disk.below.size
  refine ⟨S, Up T w w', ⟨⟨h.disk.disk.kept fun k hk hl => hc.block k hl fun ht => h.apart k ht hk, fun k hk => by have := h.disk.lo k hk; omega, h.disk.below.trans (hc.below hbs fun k hk => (h.lo k hk).1), h.disk.small⟩, hs, fun k hk hS => ?_, fun k hk => ?_, ho, by rw [hf]; exact h.nm⟩, hc.mono fun k hk => .inr hk, fun k hk => ?_⟩
  · rcases hk with hk | hk
    · exact h.apart k hk hS
    · have := (h.disk.lo k hS).2; omega
  · rcases hk with hk | hk
    · have := h.lo k hk; omega
    · omega
  · rcases hk with hk | hk | hk
    · exact .inl (.inl hk)
    · exact .inl (.inr hk)
    · exact .inr hk
theorem SgPost.trans {n1 : Nat} {d1 : Dk.St} {s1 : Sg.St} {S1 T1 : Nat → Prop} (h1 : SgW w0 S1 T1 n1 Bd d1 X s1 w' ∧ Chg (fun k => S k ∨ T k) w w' ∧ ∀ k, (S1 k ∨ T1 k) → Up (fun k => S k ∨ T k) w w' k) (h2 : SgPost w0 S1 T1 n Bd d X s w' w2) : SgPost w0 S T n Bd d X s w w2 := by
  obtain ⟨_, hc, hu⟩ := h1
  obtain ⟨S2, T2, hw, hc2, hu2⟩ := h2
  have hs1 := hc.size
  have hs2 := hc2.size
  refine ⟨S2, T2, hw, hc.trans hc2 fun i hi ht => ?_, fun k hk => ?_⟩
  · rcases hu i ht with h | h
    · exact h
    · omega
  · rcases hu2 k hk with h | h
    · rcases hu k h with h | h
      · exact .inl h
      · exact .inr (by omega)
    · exact .inr (by omega)
theorem SgPost.ahead (hb : Below w.heap.size w w') (h : SgPost w0 S T n Bd d X s w' w2) : SgPost w0 S T n Bd d X s w w2 := by
  obtain ⟨S2, T2, hw, hc2, hu2⟩ := h
  have hs1 := hb.size
  refine ⟨S2, T2, hw, (Chg.of_below hb).then hc2, fun k hk => ?_⟩
  rcases hu2 k hk with h | h
  · exact .inl h
  · exact .inr (by omega)
theorem SgPost.grow (h : SgPost w0 S T n Bd d X s w w') (hb : Below w'.heap.size w' w2) : SgPost w0 S T n Bd d X s w w2 := by
  obtain ⟨S2, T2, hw, hc2, hu2⟩ := h
  have hs1 := hb.size
  refine ⟨S2, T2, hw.grow hb, hc2.then (Chg.of_below hb), fun k hk => ?_⟩
  rcases hu2 k hk with h | h
  · exact .inl h
  · exact .inr (by omega)
end

theorem SgW.toldP {w0 w w' : World} {S T : Nat → Prop} {n m Bd X : Nat} {d d' : Dk.St} {s : Sg.St} (h : SgW w0 S T n Bd d X s w) (hd : SessS (Up S w w') w0 m Bd d' w') (hc : Chg S w w') :
    SgW w0 (Up S w w') T m Bd d' X s w' ∧ Chg (fun k => S k ∨ T k) w w' ∧ ∀ k, (Up S w w' k ∨ T k) → Up (fun k => S k ∨ T k) w w' k :=
  ⟨h.told hd hc, hc.mono fun k hk => .inl hk, fun k hk => by
    rcases hk with (hk | hk) | hk
    · exact .inl (.inl hk)
    · exact .inr hk
    · exact .inl (.inr hk)⟩
theorem SegL.setSync {w : World} {X D : Nat} {v : Value} {s : Sg.St} {T : Nat → Prop} (h : SegL w X D v s T) (z : Int) : SegL (w.setCell ⟨X, 4, none⟩ (.int .i64 z)) X D v { s with synced := z } T ∧ Chg T w (w.setCell ⟨X, 4, none⟩ (.int .i64 z)) :=
  ⟨⟨heap_setCell_same w X 4 _ _ _ h.box, ownsRow_same h.own fun g hg => Below.heap_setCell _ _ _ _ (fun e => h.ne (by rw [hg]; exact congrArg some e)), h.mX, h.mE⟩, Chg.setCell w X 4 _ h.mX⟩
theorem Sg.Ok.sync {s : Sg.St} (h : Sg.Ok s) (z : Int) : Sg.Ok { s with synced := z } := ⟨h.ne, h.len, h.off, h.pos, h.ep, h.time, h.every⟩
/-- What Sync answers, and leaves. -/
def sgSync (d : Dk.St) (s : Sg.St) : Option Nat × Dk.St × Sg.St := ((d.sync s.file).1, (d.sync s.file).2, if (d.sync s.file).1 = none then { s with synced := (Sg.last s.edges).pos } else s)

set_option maxRecDepth 100000 in
set_option maxHeartbeats 1000000 in
theorem sgSync_any (w0 w : World) (S T : Nat → Prop) (n Bd X : Nat) (d : Dk.St) (s : Sg.St) (p : Nat → Addr) (h : SgW w0 S T n Bd d X s w) (hs : SentsG w0 p) (hn : n ≤ 1000) :
    Calls Tryz.prog 64 #[.pointer (some ⟨X, 0, none⟩)] w fun e w' => e = .returned (errR p (sgSync d s).1) ∧ SgPost w0 S T (n + 1) Bd (sgSync d s).2.1 X (sgSync d s).2.2 w w' := by
  obtain ⟨v, hl⟩ := h.seg
  have HH := hide h
  have HL := hide hl
  have c0 : w.cell? ⟨X, 0, none⟩ = some (.pointer (some ⟨Bd, 0, none⟩)) := box_cell hl.box 0
  have c1 : w.cell? ⟨X, 1, none⟩ = some (encStr s.file) := box_cell hl.box 1
  have HSY := hide ((h.disk.grow (Below.refl _ _).drew).sync p hs.d hn s.file h.nm)
  unfold sgSync
  cases hr : d.sync s.file with
  | mk r d' =>
    rw [hr] at HSY
    simp only at HSY ⊢
    clear h hl
    have hfe : Hid (s.file = s.file) := hide rfl
    generalize encStr s.file = fv at *
    cases r with
    | none =>
      go_enter Tryz.func64, Tryz.ntmps64
      go_upto_region 1 with fail
      go_still_tail 8, (by kernel_rfl)
      change wpList _ _ _ _ _ w.drew
      go_wp2_with (first
        | (go_at_call 110; refine HSY.out.mono ?_; rintro e w2 ⟨rfl, hd2, hc2⟩; have HP2 := hide (HH.out.toldP (w' := w2) hd2 ((Chg.of_below (Below.refl w.heap.size w).drew).then hc2)); clear hd2 hc2; unfold errR)
        | (go_at_call 51; refine (sgSize_any X Bd s T _ HP2.out.1.seg HP2.out.1.ok).mono ?_; rintro e w3 ⟨rfl, hb3⟩; have HB3 := hide hb3; obtain ⟨v3, hl3⟩ := HP2.out.1.seg.below hb3; have HL3 := hide hl3; have e4 : w3.cell? ⟨X, 4, none⟩ = some (.int .i64 s.synced) := box_cell hl3.box 4; have f4 : w3.frozen? ⟨X, 4, none⟩ = false := box_free hl3.box 4; clear hb3 hl3)
        | fail)
      go_ret
      have hq := HL3.out.setSync (Sg.last s.edges).pos
      refine ⟨rfl, SgPost.trans HP2.out (SgPost.ahead HB3.out (SgPost.of_seg (HP2.out.1.grow HB3.out) ⟨_, hq.1.mono fun k hk => .inl hk⟩ hq.2 (HP2.out.1.ok.sync _) rfl))⟩
    | some j =>
      have hnn := neq_nilD (p j)
      unfold errV at hnn
      go_enter Tryz.func64, Tryz.ntmps64
      go_upto_region 1 with fail
      go_still_tail 8, (by kernel_rfl)
      change wpList _ _ _ _ _ w.drew
      go_wp2_with (first
        | (go_at_call 110; refine HSY.out.mono ?_; rintro e w2 ⟨rfl, hd2, hc2⟩; have HP2 := hide (HH.out.toldP (w' := w2) hd2 ((Chg.of_below (Below.refl w.heap.size w).drew).then hc2)); clear hd2 hc2; unfold errR errV)
        | fail)
      go_ret
      exact ⟨rfl, ⟨_, _, HP2.out⟩⟩
end Go.Proofs.YtcmgppacipdnaaaGreatDoor

namespace Go.Proofs.YtcmgppacipdnaaaGreatDoor
open Go.RowKit Go.Maps Go.Sort

/-- What the disk answers of the bytes between two edges. -/
def sgRaw (d : Dk.St) (s : Sg.St) (i j : Nat) : Option Nat × Dk.Nm := d.readOf s.file (Sg.ed s.edges i).pos ((Sg.ed s.edges j).pos - (Sg.ed s.edges i).pos)

/-- Bytes of one's own, whatever is made beside; a tuple that begins with them. -/
def heldOwn (base : Nat) (l : List UInt8) : Held (fun a b : World => Below a.heap.size a b) := ⟨fun v w => Own w base v l, fun _ _ _ h hg => h.below hg (Nat.le_refl _)⟩
def heldOwn2 (base : Nat) (l : List UInt8) (E : Value) : Held (fun a b : World => Below a.heap.size a b) := ⟨fun v w => ∃ u, v = .tuple #[u, E] ∧ Own w base u l, fun _ _ _ ⟨u, h1, h2⟩ hg => ⟨u, h1, h2.below hg (Nat.le_refl _)⟩⟩

set_option maxRecDepth 100000 in
set_option maxHeartbeats 1000000 in
theorem sgraw_any (w0 w : World) (S T : Nat → Prop) (n Bd X : Nat) (d : Dk.St) (s : Sg.St) (p : Nat → Addr) (h : SgW w0 S T n Bd d X s w) (hs : SentsG w0 p) (hn : n ≤ 1000) (i j : Nat) (hi : i < s.edges.length) (hj : j < s.edges.length) :
    Calls Tryz.prog 131 #[.pointer (some ⟨X, 0, none⟩), .int .i64 i, .int .i64 j] w fun e w' => ∃ v, e = .returned (.tuple #[v, errR p (sgRaw d s i j).1]) ∧ Own w' w.heap.size v (sgRaw d s i j).2 ∧ Below w.heap.size w w' := by
  obtain ⟨v, hl⟩ := h.seg
  obtain ⟨A, c, rfl, he, c0, c1, -, c3, -⟩ := hl.cells
  obtain ⟨g, rfl, hg, -, ki, -, -⟩ := he.at_ i hi
  obtain ⟨g', eg, -, -, kj, -, -⟩ := he.at_ j hj
  obtain rfl : g' = g := by injection eg with eg; injection eg with eg; exact eg.symm
  have hle := he.le
  have hpi := h.ok.pos _ (Sg.ed_mem hi)
  have hpj := h.ok.pos _ (Sg.ed_mem hj)
  have HR := hide (fun (W : World) (hw : Below w.heap.size w W) => (h.disk.grow hw).read p hs.d hn s.file h.nm (Sg.ed s.edges i).pos ((Sg.ed s.edges j).pos - (Sg.ed s.edges i).pos) (by omega))
  have HRW : Hid (sgRaw d s i j = d.readOf s.file (Sg.ed s.edges i).pos ((Sg.ed s.edges j).pos - (Sg.ed s.edges i).pos)) := hide rfl
  rw [← HRW.out] at HR
  generalize sgRaw d s i j = R at *
  generalize (Sg.ed s.edges i).pos = pi at *
  generalize (Sg.ed s.edges j).pos = pj at *
  generalize s.edges.length = m at *
  generalize encStr s.file = fv at *
  have hw1 : IntKind.i64.wrap (pj - pi) = pj - pi := by rw [IntKind.wrap_i64]; omega
  have hXl := hl.lt
  clear h hl he hs
  go_enter Tryz.func131, Tryz.ntmps131
  go_upto_region 2 with fail
  have hX := c3
  refine wp_region_guard (G := fun a b : World => Below a.heap.size a b) ⟨fun w => Below.refl _ w, fun h k => h.trans (k.mono h.size)⟩ [17, 18, 19, 20, 21, 22, 23, 24, 25, 26, 27, 28, 29, 30, 31, 32, 33, 34, 35, 36, 37, 38, 6, 7] (fun d => match d with
    | 17 => .is (.pointer (some ⟨X, 0, none⟩)) | 18 => .is (.pointer (some ⟨X, 0, none⟩)) | 19 => .is (.pointer (some ⟨X, 0, none⟩)) | 20 => .is (.pointer (some ⟨Bd, 0, none⟩)) | 21 => .is (.pointer (some ⟨X, 0, none⟩)) | 22 => .is (.pointer (some ⟨X, 0, none⟩)) | 23 => .is (.pointer (some ⟨X, 1, none⟩)) | 24 => .is (fv) | 25 => .is (.int .i64 pi) | 26 => .is (.pointer (some ⟨X, 0, none⟩)) | 27 => .is (.pointer (some ⟨X, 0, none⟩)) | 28 => .is (.pointer (some ⟨X, 3, none⟩)) | 29 => .is (.slice (some ⟨g', 0, none⟩) m c) | 30 => .is (.int .i64 j) | 31 => .is (.pointer (some ⟨g', j * 4, none⟩)) | 32 => .is (.pointer (some ⟨g', j * 4 + 1, none⟩)) | 33 => .is (.int .i64 pj) | 34 => .is (.int .i64 pi) | 35 => .is (.int .i64 (pj - pi)) | 36 => heldOwn2 w.heap.size R.2 (errR p R.1) | 37 => heldOwn w.heap.size R.2 | 38 => .is (errR p R.1) | 6 => heldOwn w.heap.size R.2 | _ => .is (errR p R.1)) (by kernel_rfl) (by kernel_rfl) (by kernel_rfl) ?_ ?_
  · simp only [StepsG]
    refine ⟨?_, ?_, ?_, ?_, ?_, ?_, ?_, ?_, ?_, ?_, ?_, ?_, ?_, ?_, ?_, ?_, ?_, ?_, ?_, ?_, ?_, ?_, ?_, ?_, trivial⟩
    all_goals
      intro ev w6 hb hev hd
      have ev0 : ev (.tmp 0) = .pointer (some ⟨X, 0, none⟩) := hev _ (by simp)
      have ev2 : ev (.tmp 2) = .int .i64 j := hev _ (by simp)
      have ev8 : ev (.tmp 8) = .int .i64 pi := hev _ (by simp)
      have evf : ∀ f, ev (.func f) = .func (.func f) #[] #[] := fun f => hev _ (by simp)
      have evc : ∀ c, ev (.const c) = c := fun c => hev _ (by simp)
      have HB6 := hide ((Below.refl w.heap.size w).drew.trans hb)
      have k0 := (HB6.out.cell (p := ⟨X, 0, none⟩) hXl).trans c0
      have k1 := (HB6.out.cell (p := ⟨X, 1, none⟩) hXl).trans c1
      have k3 := (HB6.out.cell (p := ⟨X, 3, none⟩) hXl).trans c3
      have kk := (HB6.out.cell (p := ⟨g', j * 4 + 1, none⟩) hg).trans kj
      clear hev hb c0 c1 c3 hX kj ki
      simp [DepsG, Held.is] at hd
      first
        | (obtain ⟨u, e36, hu⟩ : ∃ u, ev (.tmp 36) = .tuple #[u, errR p R.1] ∧ Own w6 w.heap.size u R.2 := hd
           simp [OpGuard, OpRuns, execOp, go_sem, Held.is, Below.refl, e36]
           try exact hu)
        | simp [OpGuard, OpRuns, execOp, go_sem, Held.is, Below.refl, *]
    exact (HR.out w6 HB6.out).mono fun e w'' ⟨u, he, ho, hb⟩ => ⟨_, he, hb, u, rfl, ho.mono HB6.out.size⟩
  · intro f w9 hb hf
    have h6 : Own w9 w.heap.size (f 6) R.2 := hf 6 (by simp)
    have e7 : f 7 = errR p R.1 := hf 7 (by simp)
    have HB9 := hide ((Below.refl w.heap.size w).drew.trans hb)
    have HO := hide h6
    obtain ⟨A6, c6, e6, -⟩ := h6.arg
    clear hf hb h6 hX c0 c1 c3 kj ki
    simp only [puts, Act.put, List.setIfInBounds_toArray, List.set_cons_succ, List.set_cons_zero]
    rw [e7]
    rw [e6] at HO ⊢
    clear e7 e6
    generalize f 17 = q17
    generalize f 18 = q18
    generalize f 19 = q19
    generalize f 20 = q20
    generalize f 21 = q21
    generalize f 22 = q22
    generalize f 23 = q23
    generalize f 24 = q24
    generalize f 25 = q25
    generalize f 26 = q26
    generalize f 27 = q27
    generalize f 28 = q28
    generalize f 29 = q29
    generalize f 30 = q30
    generalize f 31 = q31
    generalize f 32 = q32
    generalize f 33 = q33
    generalize f 34 = q34
    generalize f 35 = q35
    generalize f 36 = q36
    generalize f 37 = q37
    generalize f 38 = q38
    clear f
    go_wp2_with fail
    go_ret2
    exact ⟨_, rfl, HO.out, HB9.out⟩
end Go.Proofs.YtcmgppacipdnaaaGreatDoor
