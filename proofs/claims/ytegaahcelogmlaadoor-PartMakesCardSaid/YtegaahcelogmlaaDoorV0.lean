/-
  The library's functions that package name calls, found in this program: their bodies are those over which the shelf's contracts are proved.
  Which texts are names, as package name tells it.
  Which texts are names, as the statements tell it.
-/
import Derived.Shelf.LaysM
import Derived.Shelf.LaysC
import Derived.Shelf.Lays
import Derived.Test.YtegaahcelogmlaaDoorRows
import Derived.Test.YtegaahcelogmlaaDoorT1
import Derived.Test.YtegaahcelogmlaaDoorT3
import Derived.WalkKit
import Derived.ProofKit
import Derived.Below
import Derived.WalkSmall
import Derived.IntWalk
import Derived.Lib.Hide
import Derived.Outline
import Derived.Handy
import Derived.Shelf.Strings.SlTrimAscii
namespace Go.Proofs.YtegaahcelogmlaaDoor
open Go.Shelf
def lay_trimLeftF_ren : Go.Shelf.Ren := ⟨fun | 161 => 49 | 231 => 65 | 227 => 66 | 233 => 67 | 235 => 68 | 228 => 90 | 197 => 91 | 151 => 92 | 260 => 101 | 152 => 102 | 137 => 104 | 119 => 105 | 224 => 106 | 225 => 107 | 217 => 108 | 266 => 109 | n => n, fun | 9 => 9 | 4 => 4 | 3 => 3 | 5 => 5 | 117 => 116 | 116 => 115 | 0 => 0 | 124 => 119 | 105 => 140 | 21 => 21 | 119 => 155 | 46 => 86 | 139 => 158 | 138 => 157 | n => n, fun | 3 => 21 | 4 => 22 | n => n⟩
theorem lay_trimLeftF : Go.Proofs.Lays.n161 Tryd.prog lay_trimLeftF_ren := {
  mixed := by kernel_rfl
  f119 := Tryd.func105.trans (congrArg some (by kernel_rfl))
  f137 := Tryd.func104.trans (congrArg some (by kernel_rfl))
  f151 := Tryd.func92.trans (congrArg some (by kernel_rfl))
  f152 := Tryd.func102.trans (congrArg some (by kernel_rfl))
  f161 := Tryd.func49.trans (congrArg some (by kernel_rfl))
  f197 := Tryd.func91.trans (congrArg some (by kernel_rfl))
  f217 := Tryd.func108.trans (congrArg some (by kernel_rfl))
  f224 := Tryd.func106.trans (congrArg some (by kernel_rfl))
  f225 := Tryd.func107.trans (congrArg some (by kernel_rfl))
  f227 := Tryd.func66.trans (congrArg some (by kernel_rfl))
  f228 := Tryd.func90.trans (congrArg some (by kernel_rfl))
  f231 := Tryd.func65.trans (congrArg some (by kernel_rfl))
  f233 := Tryd.func67.trans (congrArg some (by kernel_rfl))
  f235 := Tryd.func68.trans (congrArg some (by kernel_rfl))
  f260 := Tryd.func101.trans (congrArg some (by kernel_rfl))
  f266 := Tryd.func109.trans (congrArg some (by kernel_rfl))
  t0 := Tryd.underlying0
  a0 := Tryd.isAgg0
  z0 := Tryd.sizeOf0
  v0 := Tryd.zeroValue0
  t3 := Tryd.underlying3
  a3 := Tryd.isAgg3
  z3 := Tryd.sizeOf3
  v3 := Tryd.zeroValue3
  t4 := Tryd.underlying4
  a4 := Tryd.isAgg4
  z4 := Tryd.sizeOf4
  v4 := Tryd.zeroValue4
  t5 := Tryd.underlying5
  a5 := Tryd.isAgg5
  z5 := Tryd.sizeOf5
  v5 := Tryd.zeroValue5
  t9 := Tryd.underlying9
  a9 := Tryd.isAgg9
  z9 := Tryd.sizeOf9
  v9 := Tryd.zeroValue9
  t21 := Tryd.underlying21
  a21 := Tryd.isAgg21
  z21 := Tryd.sizeOf21
  v21 := Tryd.zeroValue21
  t46 := Tryd.underlying86
  a46 := Tryd.isAgg86
  z46 := Tryd.sizeOf86
  v46 := Tryd.zeroValue86
  t105 := Tryd.underlying140
  a105 := Tryd.isAgg140
  z105 := Tryd.sizeOf140
  v105 := Tryd.zeroValue140
  t116 := Tryd.underlying115
  a116 := Tryd.isAgg115
  z116 := Tryd.sizeOf115
  t117 := Tryd.underlying116
  a117 := Tryd.isAgg116
  z117 := Tryd.sizeOf116
  v117 := Tryd.zeroValue116
  t119 := Tryd.underlying155
  a119 := Tryd.isAgg155
  z119 := Tryd.sizeOf155
  t124 := Tryd.underlying119
  a124 := Tryd.isAgg119
  z124 := Tryd.sizeOf119
  v124 := Tryd.zeroValue119
  t138 := Tryd.underlying157
  a138 := Tryd.isAgg157
  z138 := Tryd.sizeOf157
  v138 := Tryd.zeroValue157
  t139 := Tryd.underlying158
  a139 := Tryd.isAgg158
  z139 := Tryd.sizeOf158
  v139 := Tryd.zeroValue158
  g3 := by kernel_rfl
  g4 := by kernel_rfl }
end Go.Proofs.YtegaahcelogmlaaDoor

namespace Go.Proofs.YtegaahcelogmlaaDoor
open Go.RowKit Go.Shelf

abbrev str (l : List UInt8) : Value := .string ⟨l.toArray⟩
theorem trimLeft_any (s cs : List UInt8) (w : World) (hl : cs.length ≤ 1000) (ha : ∀ b ∈ cs, b.toNat < 128) : Calls Tryd.prog 49 #[str s, str cs] w fun e w' => e = .returned (str (Lib.trimLeftS s cs)) ∧ Below w.heap.size w w' :=
  Any.strings_TrimLeft_ascii lay_trimLeftF (fun _ => by kernel_rfl) (by kernel_rfl) ⟨s.toArray⟩ ⟨cs.toArray⟩ w (by show cs.toArray.size < _; simp; omega) (fun j b h => ha b (List.mem_of_getElem? h))

def justB (cs s : List UInt8) (most : Nat) : Bool := decide (s ≠ []) && (decide (s.length ≤ most) && s.all (cs.contains ·))
theorem drop_nil (p : UInt8 → Bool) : ∀ s : List UInt8, s.dropWhile p = [] ↔ s.all p = true
  | [] => by simp
  | c :: s => by
    rw [List.dropWhile_cons, List.all_cons]
    cases h : p c
    · simp
    · simpa using drop_nil p s

set_option maxRecDepth 100000 in
theorem just_any (cs s : List UInt8) (most : Nat) (w : World) (hl : cs.length ≤ 1000) (ha : ∀ b ∈ cs, b.toNat < 128) :
    Calls Tryd.prog 37 #[str cs, str s, .int .i64 (most : Int)] w fun e w' => e = .returned (.bool (justB cs s most)) ∧ Below w.heap.size w w' := by
  have HT := Lib.hid (trimLeft_any s cs w hl ha)
  clear hl ha
  by_cases h0 : s = []
  · subst h0
    go_enter Tryd.func37, Tryd.ntmps37
    go_wp2_with fail
    go_ret
    exact ⟨rfl, Below.refl _ _⟩
  · have he : s.isEmpty = false := by cases s with | nil => exact absurd rfl h0 | cons _ _ => rfl
    by_cases h1 : s.length ≤ most
    · have hd : decide (s.length ≤ most) = true := by simp [h1]
      cases h2 : s.all (cs.contains ·) with
      | true =>
        have h3 : Lib.trimLeftS s cs = [] := (drop_nil _ s).2 h2
        rw [h3] at HT
        have hj : justB cs s most = true := by unfold justB; rw [h2]; simp [h0, h1]
        rw [hj]
        clear h2 h3 hj
        go_enter Tryd.func37, Tryd.ntmps37
        go_wp2_with (first
          | (go_at_call 49; refine HT.out.mono ?_; rintro e w1 ⟨rfl, hb1⟩; have HB1 := Lib.hid hb1; clear hb1)
          | fail)
        go_ret
        exact ⟨rfl, HB1.out⟩
      | false =>
        have h3 : Lib.trimLeftS s cs ≠ [] := fun e => by
          have := (drop_nil _ s).1 e
          rw [h2] at this
          cases this
        have hj : justB cs s most = false := by unfold justB; rw [h2]; simp
        rw [hj]
        generalize Lib.trimLeftS s cs = t at *
        have ht : t.isEmpty = false := by cases t with | nil => exact absurd rfl h3 | cons _ _ => rfl
        clear h2 h3 hj
        go_enter Tryd.func37, Tryd.ntmps37
        go_wp2_with (first
          | (go_at_call 49; refine HT.out.mono ?_; rintro e w1 ⟨rfl, hb1⟩; have HB1 := Lib.hid hb1; clear hb1)
          | fail)
        go_ret
        exact ⟨rfl, HB1.out⟩
    · have hd : decide (s.length ≤ most) = false := by simp; omega
      have hj : justB cs s most = false := by unfold justB; rw [hd]; simp
      rw [hj]
      clear hj
      go_enter Tryd.func37, Tryd.ntmps37
      go_wp2_with fail
      go_ret
      exact ⟨rfl, Below.refl _ _⟩

def within : List UInt8 := [97, 98, 99, 100, 101, 102, 103, 104, 105, 106, 107, 108, 109, 110, 111, 112, 113, 114, 115, 116, 117, 118, 119, 120, 121, 122, 48, 49, 50, 51, 52, 53, 54, 55, 56, 57, 46, 45, 95]
def okB (c : UInt8) : Bool := (97 ≤ c && c ≤ 122) || (48 ≤ c && c ≤ 57) || c == 46 || c == 45 || c == 95
theorem within_fin : ∀ i : Fin 256, within.contains (UInt8.ofNat i.val) = okB (UInt8.ofNat i.val) := by decide +kernel
theorem within_all (c : UInt8) : within.contains c = okB c := by
  have h := within_fin ⟨c.toNat, c.toNat_lt⟩
  rwa [show UInt8.ofNat c.toNat = c from UInt8.ofNat_toNat] at h
def validN (s : List UInt8) : Bool := decide (s ≠ []) && (decide (s.length ≤ 64) && s.all okB)
theorem just_within (s : List UInt8) : justB within s 64 = validN s := by
  unfold justB validN
  rw [show (fun c => within.contains c) = okB from funext within_all]
theorem nValid_any (s : List UInt8) (w : World) : Calls Tryd.prog 24 #[str s] w fun e w' => e = .returned (.bool (validN s)) ∧ Below w.heap.size w w' := by
  have HJ := Lib.hid (just_any within s 64 w (by decide) (by decide))
  rw [just_within] at HJ
  generalize validN s = v at *
  go_enter Tryd.func24, Tryd.ntmps24
  go_wp2_with (first
    | (go_at_call 37; refine HJ.out.mono ?_; rintro e w1 ⟨rfl, hb1⟩; have HB1 := Lib.hid hb1; clear hb1)
    | fail)
  go_ret
  exact ⟨rfl, HB1.out⟩
theorem validN_eq (s : List UInt8) : validN s = Dk.valid s := by
  have e : okB = Dk.okByte := rfl
  unfold validN Dk.valid
  rw [e, ← Bool.and_assoc]
  cases s <;> simp
end Go.Proofs.YtegaahcelogmlaaDoor

namespace Go.Proofs.YtegaahcelogmlaaDoor
open Go.RowKit Go.Shelf

theorem str_index (l : List UInt8) (i : Nat) (h : i < l.length) (W : World) : (Instr.index 9 (str l) (.int .i64 (i : Int))).run Tryd.prog W = .ok (.int .u8 (B (l.getD i 0))) W := by
  have hg : (⟨l.toArray⟩ : ByteArray)[i]? = some l[i] := by
    rw [getElem?_pos (⟨l.toArray⟩ : ByteArray) i (by simpa [ByteArray.size] using h)]
    rfl
  simp [Instr.index, run_underlying Tryd.underlying9, asIntOf, hg, B, List.getD, h]
theorem take_snoc8 (s : List UInt8) (k : Nat) (h : k < s.length) : s.take (k + 1) = s.take k ++ [s.getD k 0] := by
  rw [List.take_succ_eq_append_getElem h]
  simp [List.getD, h]
theorem getD_mem8 (s : List UInt8) (k : Nat) (h : k < s.length) : s.getD k 0 ∈ s := by
  rw [show s.getD k 0 = s[k] from by simp [List.getD, h]]
  exact List.getElem_mem _

theorem okB_iff (c : UInt8) : okB c = true ↔ (97 ≤ B c ∧ B c ≤ 122) ∨ (48 ≤ B c ∧ B c ≤ 57) ∨ B c = 46 ∨ B c = 45 ∨ B c = 95 := by
  unfold okB B
  simp [UInt8.le_iff_toNat_le, ← UInt8.toNat_inj]
  omega
set_option maxRecDepth 100000 in
set_option maxHeartbeats 1000000 in
theorem valid1_any (s : List UInt8) (w : World) :
    Calls Tryd.prog 10 #[str s] w fun e w' => e = .returned (.bool (validN s)) ∧ w' = w := by
  obtain ⟨r, hr⟩ : ∃ r, r = validN s := ⟨_, rfl⟩
  rw [← hr]
  have HR := Lib.hid hr
  clear hr
  obtain ⟨L, hL⟩ : ∃ L, L = s.length := ⟨_, rfl⟩
  have hsz : (⟨s.toArray⟩ : ByteArray).size = L := by rw [hL]; show s.toArray.size = _; simp
  have hsl : s.length = L := hL.symm
  have HL := Lib.hid hL
  clear hL
  by_cases h1 : 1 ≤ L
  · have d1 : decide ((L : Int) < 1) = false := by simp; omega
    by_cases h2 : L ≤ 64
    · have d2 : decide ((64 : Int) < (L : Int)) = false := by simp; omega
      have hne : s ≠ [] := fun e => by rw [e] at hsl; simp at hsl; omega
      have HNE := Lib.hid hne
      clear hsl hne
      go_enter Tryd.func10, Tryd.ntmps10
      go_wp2_with fail
      go_loop [3] (fun i => ∃ k : Nat, k ≤ L ∧ i = .int .i64 k ∧ (s.take k).all okB = true) (fun i => L - (intOf i).toNat)
      case atStart => exact ⟨0, Nat.zero_le _, rfl, by simp⟩
      case round =>
        obtain ⟨k, hk, rfl, hd⟩ := hrel
        by_cases hlt : k < L
        · have hlt' : k < s.length := by rw [← HL.out]; exact hlt
          have hat := str_index s k hlt' w
          have HT := Lib.hid (take_snoc8 s k hlt')
          have HM := Lib.hid (getD_mem8 s k hlt')
          generalize s.getD k 0 = c at *
          have hx0 : 0 ≤ B c ∧ B c ≤ 255 := by have := c.toNat_lt; unfold B; omega
          have HB := Lib.hid (okB_iff c)
          generalize B c = x at *
          have HF : Hid (¬ ((97 ≤ x ∧ x ≤ 122) ∨ (48 ≤ x ∧ x ≤ 57) ∨ x = 46 ∨ x = 45 ∨ x = 95) → r = false) := Lib.hid fun h => by
            rw [HR.out]
            unfold validN
            have h3 : s.all okB = false := by
              rw [List.all_eq_false]
              exact ⟨c, HM.out, fun e => h (HB.out.1 e)⟩
            rw [h3]
            simp
          have HS : Hid ((97 ≤ x ∧ x ≤ 122) ∨ (48 ≤ x ∧ x ≤ 57) ∨ x = 46 ∨ x = 45 ∨ x = 95 → (s.take (k + 1)).all okB = true) := Lib.hid fun h => by
            rw [HT.out, List.all_append, hd]
            simpa using HB.out.2 h
          clear hd HT HM HB
          obtain ⟨hx0, hx1⟩ := hx0
          by_cases b1 : 97 ≤ x ∧ x ≤ 122
          · obtain ⟨a1, a2⟩ := b1
            have E := Lib.hid (HS.out (.inl ⟨a1, a2⟩))
            go_wp2_with fail
            exact ⟨⟨k + 1, by omega, by congr 1, E.out⟩, by simp [intOf]; omega⟩
          · by_cases b2 : 48 ≤ x ∧ x ≤ 57
            · obtain ⟨a1, a2⟩ := b2
              have a3 : x < 97 := by omega
              have E := Lib.hid (HS.out (.inr (.inl ⟨a1, a2⟩)))
              clear b1
              go_wp2_with fail
              exact ⟨⟨k + 1, by omega, by congr 1, E.out⟩, by simp [intOf]; omega⟩
            · by_cases b3 : x = 46
              · have E := Lib.hid (HS.out (.inr (.inr (.inl b3))))
                subst b3
                clear b1 b2
                go_wp2_with fail
                exact ⟨⟨k + 1, by omega, by congr 1, E.out⟩, by simp [intOf]; omega⟩
              · by_cases b4 : x = 45
                · have E := Lib.hid (HS.out (.inr (.inr (.inr (.inl b4)))))
                  subst b4
                  clear b1 b2 b3
                  go_wp2_with fail
                  exact ⟨⟨k + 1, by omega, by congr 1, E.out⟩, by simp [intOf]; omega⟩
                · by_cases b5 : x = 95
                  · have E := Lib.hid (HS.out (.inr (.inr (.inr (.inr b5)))))
                    subst b5
                    clear b1 b2 b3 b4
                    go_wp2_with fail
                    exact ⟨⟨k + 1, by omega, by congr 1, E.out⟩, by simp [intOf]; omega⟩
                  · have E := Lib.hid (HF.out (by omega))
                    have e3 : (x != 46) = true := by simp; omega
                    have e4 : (x != 45) = true := by simp; omega
                    have e5 : (x != 95) = true := by simp; omega
                    by_cases c1 : x < 48
                    · have c2 : x < 97 := by omega
                      clear b1 b2 b3 b4 b5
                      go_wp2_with fail
                      go_ret
                      exact ⟨by rw [E.out]; rfl, rfl⟩
                    · have c1' : 48 ≤ x := by omega
                      have c2 : 57 < x := by omega
                      by_cases c3 : x < 97
                      · clear b1 b2 b3 b4 b5
                        go_wp2_with fail
                        go_ret
                        exact ⟨by rw [E.out]; rfl, rfl⟩
                      · have c4 : 122 < x := by omega
                        clear b1 b2 b3 b4 b5
                        go_wp2_with fail
                        go_ret
                        exact ⟨by rw [E.out]; rfl, rfl⟩
        · obtain rfl : k = L := by omega
          have ht : s.take k = s := List.take_of_length_le (by rw [← HL.out]; exact Nat.le_refl _)
          have HF : Hid (r = true) := Lib.hid (by
            rw [HR.out]
            unfold validN
            rw [ht] at hd
            rw [hd, ← HL.out]
            simp [HNE.out, h2])
          clear hd ht
          go_wp2_with fail
          go_ret
          exact ⟨by rw [HF.out]; rfl, rfl⟩
    · have d2 : decide ((64 : Int) < (L : Int)) = true := by simp; omega
      have HF : r = false := by rw [HR.out]; unfold validN; rw [hsl]; simp [h2]
      rw [HF]
      clear hsl HF
      go_enter Tryd.func10, Tryd.ntmps10
      go_wp2_with fail
      go_ret
      exact ⟨rfl, rfl⟩
  · have d1 : decide ((L : Int) < 1) = true := by simp; omega
    have hnil : s = [] := List.length_eq_zero_iff.1 (by omega)
    have HF : r = false := by rw [HR.out, hnil]; rfl
    rw [HF]
    clear hsl HF hnil
    go_enter Tryd.func10, Tryd.ntmps10
    go_wp2_with fail
    go_ret
    exact ⟨rfl, rfl⟩

end Go.Proofs.YtegaahcelogmlaaDoor
