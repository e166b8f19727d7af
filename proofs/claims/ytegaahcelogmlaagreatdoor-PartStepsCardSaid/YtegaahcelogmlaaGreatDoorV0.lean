/-
  The library's functions that package name calls, found in this program: their bodies are those over which the shelf's contracts are proved.
  Which texts are names, as package name tells it.
  Which texts are names, as the statements tell it.
-/
import Derived.Shelf.LaysM
import Derived.Shelf.LaysC
import Derived.Shelf.Lays
import Derived.Test.YtegaahcelogmlaaGreatDoorRows
import Derived.Test.YtegaahcelogmlaaGreatDoorT1
import Derived.Test.YtegaahcelogmlaaGreatDoorT3
import Derived.WalkKit
import Derived.ProofKit
import Derived.Below
import Derived.WalkSmall
import Derived.IntWalk
import Derived.Lib.Hide
import Derived.Outline
import Derived.Handy
import Derived.Shelf.Strings.SlTrimAscii
namespace Go.Proofs.YtegaahcelogmlaaGreatDoor
open Go.Shelf
def lay_trimLeftF_ren : Go.Shelf.Ren := ⟨fun | 161 => 37 | 231 => 52 | 227 => 53 | 233 => 54 | 235 => 55 | 228 => 78 | 197 => 79 | 151 => 80 | 260 => 92 | 152 => 93 | 137 => 95 | 119 => 96 | 224 => 97 | 225 => 98 | 217 => 99 | 266 => 100 | n => n, fun | 9 => 9 | 4 => 4 | 3 => 3 | 5 => 5 | 117 => 104 | 116 => 103 | 0 => 0 | 124 => 107 | 105 => 130 | 21 => 21 | 119 => 150 | 46 => 83 | 139 => 153 | 138 => 152 | n => n, fun | 3 => 21 | 4 => 22 | n => n⟩
theorem lay_trimLeftF : Go.Proofs.Lays.n161 Tryz.prog lay_trimLeftF_ren := {
  mixed := by kernel_rfl
  f119 := Tryz.func96.trans (congrArg some (by kernel_rfl))
  f137 := Tryz.func95.trans (congrArg some (by kernel_rfl))
  f151 := Tryz.func80.trans (congrArg some (by kernel_rfl))
  f152 := Tryz.func93.trans (congrArg some (by kernel_rfl))
  f161 := Tryz.func37.trans (congrArg some (by kernel_rfl))
  f197 := Tryz.func79.trans (congrArg some (by kernel_rfl))
  f217 := Tryz.func99.trans (congrArg some (by kernel_rfl))
  f224 := Tryz.func97.trans (congrArg some (by kernel_rfl))
  f225 := Tryz.func98.trans (congrArg some (by kernel_rfl))
  f227 := Tryz.func53.trans (congrArg some (by kernel_rfl))
  f228 := Tryz.func78.trans (congrArg some (by kernel_rfl))
  f231 := Tryz.func52.trans (congrArg some (by kernel_rfl))
  f233 := Tryz.func54.trans (congrArg some (by kernel_rfl))
  f235 := Tryz.func55.trans (congrArg some (by kernel_rfl))
  f260 := Tryz.func92.trans (congrArg some (by kernel_rfl))
  f266 := Tryz.func100.trans (congrArg some (by kernel_rfl))
  t0 := Tryz.underlying0
  a0 := Tryz.isAgg0
  z0 := Tryz.sizeOf0
  v0 := Tryz.zeroValue0
  t3 := Tryz.underlying3
  a3 := Tryz.isAgg3
  z3 := Tryz.sizeOf3
  v3 := Tryz.zeroValue3
  t4 := Tryz.underlying4
  a4 := Tryz.isAgg4
  z4 := Tryz.sizeOf4
  v4 := Tryz.zeroValue4
  t5 := Tryz.underlying5
  a5 := Tryz.isAgg5
  z5 := Tryz.sizeOf5
  v5 := Tryz.zeroValue5
  t9 := Tryz.underlying9
  a9 := Tryz.isAgg9
  z9 := Tryz.sizeOf9
  v9 := Tryz.zeroValue9
  t21 := Tryz.underlying21
  a21 := Tryz.isAgg21
  z21 := Tryz.sizeOf21
  v21 := Tryz.zeroValue21
  t46 := Tryz.underlying83
  a46 := Tryz.isAgg83
  z46 := Tryz.sizeOf83
  v46 := Tryz.zeroValue83
  t105 := Tryz.underlying130
  a105 := Tryz.isAgg130
  z105 := Tryz.sizeOf130
  v105 := Tryz.zeroValue130
  t116 := Tryz.underlying103
  a116 := Tryz.isAgg103
  z116 := Tryz.sizeOf103
  t117 := Tryz.underlying104
  a117 := Tryz.isAgg104
  z117 := Tryz.sizeOf104
  v117 := Tryz.zeroValue104
  t119 := Tryz.underlying150
  a119 := Tryz.isAgg150
  z119 := Tryz.sizeOf150
  t124 := Tryz.underlying107
  a124 := Tryz.isAgg107
  z124 := Tryz.sizeOf107
  v124 := Tryz.zeroValue107
  t138 := Tryz.underlying152
  a138 := Tryz.isAgg152
  z138 := Tryz.sizeOf152
  v138 := Tryz.zeroValue152
  t139 := Tryz.underlying153
  a139 := Tryz.isAgg153
  z139 := Tryz.sizeOf153
  v139 := Tryz.zeroValue153
  g3 := by kernel_rfl
  g4 := by kernel_rfl }
end Go.Proofs.YtegaahcelogmlaaGreatDoor

namespace Go.Proofs.YtegaahcelogmlaaGreatDoor
open Go.RowKit Go.Shelf

abbrev str (l : List UInt8) : Value := .string ⟨l.toArray⟩
theorem trimLeft_any (s cs : List UInt8) (w : World) (hl : cs.length ≤ 1000) (ha : ∀ b ∈ cs, b.toNat < 128) : Calls Tryz.prog 37 #[str s, str cs] w fun e w' => e = .returned (str (Lib.trimLeftS s cs)) ∧ Below w.heap.size w w' :=
  Any.strings_TrimLeft_ascii lay_trimLeftF (fun _ => by kernel_rfl) (by kernel_rfl) ⟨s.toArray⟩ ⟨cs.toArray⟩ w (by show cs.toArray.size < _; simp; omega) (fun j b h => ha b (List.mem_of_getElem? h))

def justB (cs s : List UInt8) (most : Nat) : Bool := decide (s ≠ []) && (decide (s.length ≤ most) && s.all (cs.contains ·))
theorem drop_nil (p : UInt8 → Bool) : ∀ s : List UInt8, s.dropWhile p = [] ↔ s.all p = true
  | [] => by simp
  | c :: s => by
    rw [List.dropWhile_cons, List.all_cons]
    cases h : p c
    · simp
    · simpa using drop_nil p s

set_option maxRecDepth 100000 in
theorem just_any (cs s : List UInt8) (most : Nat) (w : World) (hl : cs.length ≤ 1000) (ha : ∀ b ∈ cs, b.toNat < 128) :
    Calls Tryz.prog 26 #[str cs, str s, .int .i64 (most : Int)] w fun e w' => e = .returned (.bool (justB cs s most)) ∧ Below w.heap.size w w' := by
  have HT := Lib.hid (trimLeft_any s cs w hl ha)
  clear hl ha
  by_cases h0 : s = []
  · subst h0
    go_enter Tryz.func26, Tryz.ntmps26
    go_wp2_with fail
    go_ret
    exact ⟨rfl, Below.refl _ _⟩
  · have he : s.isEmpty = false := by cases s with | nil => exact absurd rfl h0 | cons _ _ => rfl
    by_cases h1 : s.length ≤ most
    · have hd : decide (s.length ≤ most) = true := by simp [h1]
      cases h2 : s.all (cs.contains ·) with
      | true =>
        have h3 : Lib.trimLeftS s cs = [] := (drop_nil _ s).2 h2
        rw [h3] at HT
        have hj : justB cs s most = true := by unfold justB; rw [h2]; simp [h0, h1]
        rw [hj]
        clear h2 h3 hj
        go_enter Tryz.func26, Tryz.ntmps26
        go_wp2_with (first
          | (go_at_call 37; refine HT.out.mono ?_; rintro e w1 ⟨rfl, hb1⟩; have HB1 := Lib.hid hb1; clear hb1)
          | fail)
        go_ret
        exact ⟨rfl, HB1.out⟩
      | false =>
        have h3 : Lib.trimLeftS s cs ≠ [] := fun e => by
          have := (drop_nil _ s).1 e
          rw [h2] at this
          cases this
        have hj : justB cs s most = false := by unfold justB; rw [h2]; simp
        rw [hj]
        generalize Lib.trimLeftS s cs = t at *
        have ht : t.isEmpty = false := by cases t with | nil => exact absurd rfl h3 | cons _ _ => rfl
        clear h2 h3 hj
        go_enter Tryz.func26, Tryz.ntmps26
        go_wp2_with (first
          | (go_at_call 37; refine HT.out.mono ?_; rintro e w1 ⟨rfl, hb1⟩; have HB1 := Lib.hid hb1; clear hb1)
          | fail)
        go_ret
        exact ⟨rfl, HB1.out⟩
    · have hd : decide (s.length ≤ most) = false := by simp; omega
      have hj : justB cs s most = false := by unfold justB; rw [hd]; simp
      rw [hj]
      clear hj
      go_enter Tryz.func26, Tryz.ntmps26
      go_wp2_with fail
      go_ret
      exact ⟨rfl, Below.refl _ _⟩

def within : List UInt8 := [97, 98, 99, 100, 101, 102, 103, 104, 105, 106, 107, 108, 109, 110, 111, 112, 113, 114, 115, 116, 117, 118, 119, 120, 121, 122, 48, 49, 50, 51, 52, 53, 54, 55, 56, 57, 46, 45, 95]
def okB (c : UInt8) : Bool := (97 ≤ c && c ≤ 122) || (48 ≤ c && c ≤ 57) || c == 46 || c == 45 || c == 95
theorem within_fin : ∀ i : Fin 256, within.contains (UInt8.ofNat i.val) = okB (UInt8.ofNat i.val) := by decide +kernel
theorem within_all (c : UInt8) : within.contains c = okB c := by
  have h := within_fin ⟨c.toNat, c.toNat_lt⟩
  rwa [show UInt8.ofNat c.toNat = c from UInt8.ofNat_toNat] at h
def validN (s : List UInt8) : Bool := decide (s ≠ []) && (decide (s.length ≤ 64) && s.all okB)
theorem just_within (s : List UInt8) : justB within s 64 = validN s := by
  unfold justB validN
  rw [show (fun c => within.contains c) = okB from funext within_all]
theorem nValid_any (s : List UInt8) (w : World) : Calls Tryz.prog 16 #[str s] w fun e w' => e = .returned (.bool (validN s)) ∧ Below w.heap.size w w' := by
  have HJ := Lib.hid (just_any within s 64 w (by decide) (by decide))
  rw [just_within] at HJ
  generalize validN s = v at *
  go_enter Tryz.func16, Tryz.ntmps16
  go_wp2_with (first
    | (go_at_call 26; refine HJ.out.mono ?_; rintro e w1 ⟨rfl, hb1⟩; have HB1 := Lib.hid hb1; clear hb1)
    | fail)
  go_ret
  exact ⟨rfl, HB1.out⟩
theorem validN_eq (s : List UInt8) : validN s = Dk.valid s := by
  have e : okB = Dk.okByte := rfl
  unfold validN Dk.valid
  rw [e, ← Bool.and_assoc]
  cases s <;> simp
end Go.Proofs.YtegaahcelogmlaaGreatDoor

namespace Go.Proofs.YtegaahcelogmlaaGreatDoor
open Go.RowKit Go.Shelf

theorem str_index (l : List UInt8) (i : Nat) (h : i < l.length) (W : World) : (Instr.index 9 (str l) (.int .i64 (i : Int))).run Tryz.prog W = .ok (.int .u8 (B (l.getD i 0))) W := by
  have hg : (⟨l.toArray⟩ : ByteArray)[i]? = some l[i] := by
    rw [getElem?_pos (⟨l.toArray⟩ : ByteArray) i (by simpa [ByteArray.size] using h)]
    rfl
  simp [Instr.index, run_underlying Tryz.underlying9, asIntOf, hg, B, List.getD, h]
theorem take_snoc8 (s : List UInt8) (k : Nat) (h : k < s.length) : s.take (k + 1) = s.take k ++ [s.getD k 0] := by
  rw [List.take_succ_eq_append_getElem h]
  simp [List.getD, h]
theorem getD_mem8 (s : List UInt8) (k : Nat) (h : k < s.length) : s.getD k 0 ∈ s := by
  rw [show s.getD k 0 = s[k] from by simp [List.getD, h]]
  exact List.getElem_mem _

theorem okB_iff (c : UInt8) : okB c = true ↔ (97 ≤ B c ∧ B c ≤ 122) ∨ (48 ≤ B c ∧ B c ≤ 57) ∨ B c = 46 ∨ B c = 45 ∨ B c = 95 := by
  unfold okB B
  simp [UInt8.le_iff_toNat_le, ← UInt8.toNat_inj]
  omega
end Go.Proofs.YtegaahcelogmlaaGreatDoor
