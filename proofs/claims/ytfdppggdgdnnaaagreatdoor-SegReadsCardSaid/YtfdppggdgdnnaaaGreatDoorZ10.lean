/-
  The library's functions that package name calls, found in this program: their bodies are those over which the shelf's contracts are proved.
  Names, plainly: numbers in so many digits, what they are read as, how they stand to one another; segments' and objects' names; texts that rise, each once.
  Texts that rise, each once, plainly: put in place one by one, or sorted and made compact: one list.
  The library's functions that package name calls, by the shelf's contracts.
  Package name: numbers in digits, offsets, segments' names.
-/
import Derived.Shelf.LaysM
import Derived.Shelf.LaysC
import Derived.Shelf.Lays
import Derived.Test.YtfdppggdgdnnaaaGreatDoorRows
import Derived.Lib.ParseIntB
import Derived.Lib.ParseIntBCases
import Derived.Lib.ItoaNum
import Derived.Lib.Repeat
import Derived.Lib.Join
import Derived.Lib.Split
import Derived.Lib.SplitLaws
import Derived.Lib.SlicesCompact
import Derived.Test.YtfdppggdgdnnaaaGreatDoorZ1
import Derived.WalkKit
import Derived.ProofKit
import Derived.Below
import Derived.Shelf.Strings.Prefix
import Derived.Shelf.Strings.SlTrimAscii
import Derived.Shelf.Strings.SplitShaped
import Derived.Shelf.Strings.Repeat
import Derived.Shelf.Strings.OnBuilder
import Derived.Shelf.Strconv.AtoiAll
import Derived.Shelf.Strconv.ParseIntPublic10
import Derived.Shelf.Strconv.Itoa4
import Derived.Shelf.Slices.CompactS
import Derived.WalkSmall
import Derived.IntWalk
import Derived.Lib.Hide
import Derived.Outline
import Derived.Handy
import Derived.Shelf.SlSorted.Search
namespace Go.Proofs.YtfdppggdgdnnaaaGreatDoor
open Go.Shelf
def lay_hasPrefixF_ren : Go.Shelf.Ren := ⟨fun | 99 => 160 | 206 => 186 | n => n, fun | 9 => 9 | 4 => 4 | 3 => 3 | n => n, fun | n => n⟩
theorem lay_hasPrefixF : Go.Proofs.Lays.n99 Tryz.prog lay_hasPrefixF_ren := {
  mixed := by kernel_rfl
  f99 := Tryz.func160.trans (congrArg some (by kernel_rfl))
  f206 := Tryz.func186.trans (congrArg some (by kernel_rfl))
  t3 := Tryz.underlying3
  a3 := Tryz.isAgg3
  z3 := Tryz.sizeOf3
  v3 := Tryz.zeroValue3
  t4 := Tryz.underlying4
  a4 := Tryz.isAgg4
  z4 := Tryz.sizeOf4
  v4 := Tryz.zeroValue4
  t9 := Tryz.underlying9
  a9 := Tryz.isAgg9
  z9 := Tryz.sizeOf9
  v9 := Tryz.zeroValue9 }
def lay_repeatF_ren : Go.Shelf.Ren := ⟨fun | 105 => 145 | 212 => 159 | 99 => 160 | 165 => 161 | 166 => 162 | 170 => 163 | 169 => 164 | 263 => 184 | 264 => 185 | 206 => 186 | 240 => 187 | 241 => 188 | 276 => 198 | 277 => 199 | n => n, fun | 9 => 9 | 3 => 3 | 4 => 4 | 20 => 20 | 0 => 0 | 46 => 146 | 109 => 205 | 5 => 5 | 72 => 210 | 76 => 65 | 51 => 92 | 146 => 234 | 53 => 89 | 148 => 236 | 70 => 208 | 37 => 32 | 75 => 35 | 127 => 238 | 164 => 251 | 80 => 211 | n => n, fun | n => n⟩
theorem lay_repeatF : Go.Proofs.Lays.n105 Tryz.prog lay_repeatF_ren := {
  mixed := by kernel_rfl
  f99 := Tryz.func160.trans (congrArg some (by kernel_rfl))
  f105 := Tryz.func145.trans (congrArg some (by kernel_rfl))
  f165 := Tryz.func161.trans (congrArg some (by kernel_rfl))
  f166 := Tryz.func162.trans (congrArg some (by kernel_rfl))
  f169 := Tryz.func164.trans (congrArg some (by kernel_rfl))
  f170 := Tryz.func163.trans (congrArg some (by kernel_rfl))
  f206 := Tryz.func186.trans (congrArg some (by kernel_rfl))
  f212 := Tryz.func159.trans (congrArg some (by kernel_rfl))
  f240 := Tryz.func187.trans (congrArg some (by kernel_rfl))
  f241 := Tryz.func188.trans (congrArg some (by kernel_rfl))
  f263 := Tryz.func184.trans (congrArg some (by kernel_rfl))
  f264 := Tryz.func185.trans (congrArg some (by kernel_rfl))
  f276 := Tryz.func198.trans (congrArg some (by kernel_rfl))
  f277 := Tryz.func199.trans (congrArg some (by kernel_rfl))
  t0 := Tryz.underlying0
  a0 := Tryz.isAgg0
  z0 := Tryz.sizeOf0
  v0 := Tryz.zeroValue0
  t3 := Tryz.underlying3
  a3 := Tryz.isAgg3
  z3 := Tryz.sizeOf3
  v3 := Tryz.zeroValue3
  t4 := Tryz.underlying4
  a4 := Tryz.isAgg4
  z4 := Tryz.sizeOf4
  v4 := Tryz.zeroValue4
  t5 := Tryz.underlying5
  a5 := Tryz.isAgg5
  z5 := Tryz.sizeOf5
  v5 := Tryz.zeroValue5
  t9 := Tryz.underlying9
  a9 := Tryz.isAgg9
  z9 := Tryz.sizeOf9
  v9 := Tryz.zeroValue9
  t20 := Tryz.underlying20
  a20 := Tryz.isAgg20
  z20 := Tryz.sizeOf20
  v20 := Tryz.zeroValue20
  t37 := Tryz.underlying32
  a37 := Tryz.isAgg32
  z37 := Tryz.sizeOf32
  v37 := Tryz.zeroValue32
  t46 := Tryz.underlying146
  a46 := Tryz.isAgg146
  z46 := Tryz.sizeOf146
  v46 := Tryz.zeroValue146
  t51 := Tryz.underlying92
  a51 := Tryz.isAgg92
  z51 := Tryz.sizeOf92
  v51 := Tryz.zeroValue92
  t53 := Tryz.underlying89
  a53 := Tryz.isAgg89
  z53 := Tryz.sizeOf89
  v53 := Tryz.zeroValue89
  t70 := Tryz.underlying208
  a70 := Tryz.isAgg208
  z70 := Tryz.sizeOf208
  v70 := Tryz.zeroValue208
  t72 := Tryz.underlying210
  a72 := Tryz.isAgg210
  z72 := Tryz.sizeOf210
  v72 := Tryz.zeroValue210
  t75 := Tryz.underlying35
  a75 := Tryz.isAgg35
  z75 := Tryz.sizeOf35
  v75 := Tryz.zeroValue35
  t76 := Tryz.underlying65
  a76 := Tryz.isAgg65
  z76 := Tryz.sizeOf65
  v76 := Tryz.zeroValue65
  t109 := Tryz.underlying205
  a109 := Tryz.isAgg205
  z109 := Tryz.sizeOf205
  v109 := Tryz.zeroValue205
  t127 := Tryz.underlying238
  a127 := Tryz.isAgg238
  z127 := Tryz.sizeOf238
  v127 := Tryz.zeroValue238
  t146 := Tryz.underlying234
  a146 := Tryz.isAgg234
  z146 := Tryz.sizeOf234
  v146 := Tryz.zeroValue234
  t148 := Tryz.underlying236
  a148 := Tryz.isAgg236
  z148 := Tryz.sizeOf236
  v148 := Tryz.zeroValue236
  t164 := Tryz.underlying251
  a164 := Tryz.isAgg251
  z164 := Tryz.sizeOf251
  v164 := Tryz.zeroValue251 }
def lay_formatF_ren : Go.Shelf.Ren := ⟨fun | 173 => 144 | 246 => 158 | 283 => 180 | 284 => 181 | 285 => 182 | 286 => 183 | 129 => 174 | 317 => 194 | 318 => 195 | 319 => 196 | 320 => 197 | 337 => 201 | 338 => 202 | n => n, fun | 2 => 2 | 3 => 3 | 9 => 9 | 4 => 4 | 171 => 230 | 0 => 0 | 53 => 89 | 37 => 32 | 5 => 5 | 173 => 232 | 212 => 249 | 51 => 92 | 20 => 20 | 213 => 250 | 46 => 146 | 232 => 256 | 233 => 257 | n => n, fun | 17 => 21 | 18 => 23 | 19 => 24 | n => n⟩
theorem lay_formatF : Go.Proofs.LaysM.n173 Tryz.prog lay_formatF_ren := {
  mixed := by kernel_rfl
  f129 := Tryz.func174.trans (congrArg some (by kernel_rfl))
  f173 := Tryz.func144.trans (congrArg some (by kernel_rfl))
  f246 := Tryz.func158.trans (congrArg some (by kernel_rfl))
  f283 := Tryz.func180.trans (congrArg some (by kernel_rfl))
  f284 := Tryz.func181.trans (congrArg some (by kernel_rfl))
  f285 := Tryz.func182.trans (congrArg some (by kernel_rfl))
  f286 := Tryz.func183.trans (congrArg some (by kernel_rfl))
  f317 := Tryz.func194.trans (congrArg some (by kernel_rfl))
  f318 := Tryz.func195.trans (congrArg some (by kernel_rfl))
  f319 := Tryz.func196.trans (congrArg some (by kernel_rfl))
  f320 := Tryz.func197.trans (congrArg some (by kernel_rfl))
  f337 := Tryz.func201.trans (congrArg some (by kernel_rfl))
  f338 := Tryz.func202.trans (congrArg some (by kernel_rfl))
  t0 := Tryz.underlying0
  a0 := Tryz.isAgg0
  z0 := Tryz.sizeOf0
  v0 := Tryz.zeroValue0
  t2 := Tryz.underlying2
  a2 := Tryz.isAgg2
  z2 := Tryz.sizeOf2
  v2 := Tryz.zeroValue2
  t3 := Tryz.underlying3
  a3 := Tryz.isAgg3
  z3 := Tryz.sizeOf3
  v3 := Tryz.zeroValue3
  t4 := Tryz.underlying4
  a4 := Tryz.isAgg4
  z4 := Tryz.sizeOf4
  v4 := Tryz.zeroValue4
  t5 := Tryz.underlying5
  a5 := Tryz.isAgg5
  z5 := Tryz.sizeOf5
  v5 := Tryz.zeroValue5
  t9 := Tryz.underlying9
  a9 := Tryz.isAgg9
  z9 := Tryz.sizeOf9
  v9 := Tryz.zeroValue9
  t20 := Tryz.underlying20
  a20 := Tryz.isAgg20
  z20 := Tryz.sizeOf20
  v20 := Tryz.zeroValue20
  t37 := Tryz.underlying32
  a37 := Tryz.isAgg32
  z37 := Tryz.sizeOf32
  v37 := Tryz.zeroValue32
  t46 := Tryz.underlying146
  a46 := Tryz.isAgg146
  z46 := Tryz.sizeOf146
  v46 := Tryz.zeroValue146
  t51 := Tryz.underlying92
  a51 := Tryz.isAgg92
  z51 := Tryz.sizeOf92
  v51 := Tryz.zeroValue92
  t53 := Tryz.underlying89
  a53 := Tryz.isAgg89
  z53 := Tryz.sizeOf89
  v53 := Tryz.zeroValue89
  t171 := Tryz.underlying230
  a171 := Tryz.isAgg230
  z171 := Tryz.sizeOf230
  v171 := Tryz.zeroValue230
  t173 := Tryz.underlying232
  a173 := Tryz.isAgg232
  z173 := Tryz.sizeOf232
  v173 := Tryz.zeroValue232
  t212 := Tryz.underlying249
  a212 := Tryz.isAgg249
  z212 := Tryz.sizeOf249
  v212 := Tryz.zeroValue249
  t213 := Tryz.underlying250
  a213 := Tryz.isAgg250
  z213 := Tryz.sizeOf250
  t232 := Tryz.underlying256
  a232 := Tryz.isAgg256
  z232 := Tryz.sizeOf256
  v232 := Tryz.zeroValue256
  t233 := Tryz.underlying257
  a233 := Tryz.isAgg257
  z233 := Tryz.sizeOf257
  v233 := Tryz.zeroValue257
  g17 := by kernel_rfl
  g18 := by kernel_rfl
  g19 := by kernel_rfl
  i0 := by kernel_rfl
  i2 := by kernel_rfl
  i3 := by kernel_rfl
  i4 := by kernel_rfl
  i5 := by kernel_rfl
  i9 := by kernel_rfl
  i20 := by kernel_rfl
  i37 := by kernel_rfl
  i46 := by kernel_rfl
  i51 := by kernel_rfl
  i53 := by kernel_rfl
  i171 := by kernel_rfl
  i173 := by kernel_rfl
  i212 := by kernel_rfl
  i232 := by kernel_rfl
  i233 := by kernel_rfl
  m17 := by kernel_rfl
  m18 := by kernel_rfl
  m19 := by kernel_rfl }
end Go.Proofs.YtfdppggdgdnnaaaGreatDoor

namespace Go.Proofs.YtfdppggdgdnnaaaGreatDoor.Nm

/-- A digit's byte. -/
def dc (d : Nat) : UInt8 := UInt8.ofNat (48 + d % 10)
theorem dc_toNat (d : Nat) : (dc d).toNat = 48 + d % 10 := by
  unfold dc
  rw [UInt8.toNat_ofNat']
  omega
theorem dc_lt (a b : Nat) : dc a < dc b ↔ a % 10 < b % 10 := by
  rw [UInt8.lt_iff_toNat_lt, dc_toNat, dc_toNat]
  omega
theorem dc_inj (a b : Nat) (h : dc a = dc b) : a % 10 = b % 10 := by
  have := congrArg UInt8.toNat h
  rw [dc_toNat, dc_toNat] at this
  omega
/-- A number in so many digits. -/
def dgs : Nat → Nat → List UInt8
  | 0, _ => []
  | k + 1, u => dgs k (u / 10) ++ [dc u]
theorem dgs_length : ∀ (k u : Nat), (dgs k u).length = k
  | 0, _ => rfl
  | k + 1, u => by simp [dgs, dgs_length k]
theorem dgs_front : ∀ (k u : Nat), dgs (k + 1) u = dc (u / 10 ^ k) :: dgs k u
  | 0, u => by simp [dgs]
  | k + 1, u => by
    show dgs (k + 1) (u / 10) ++ [dc u] = _
    rw [dgs_front k (u / 10), Nat.div_div_eq_div_mul, ← Nat.pow_succ']
    rfl
theorem dgs_zero : ∀ k : Nat, dgs k 0 = List.replicate k 48
  | 0 => rfl
  | k + 1 => by
    show dgs k (0 / 10) ++ [dc 0] = _
    rw [Nat.zero_div, dgs_zero k, List.replicate_succ']
    rfl
theorem dgs_small {k u : Nat} (h : u < 10) : dgs (k + 1) u = List.replicate k 48 ++ Lib.decDigits u := by
  show dgs k (u / 10) ++ [dc u] = _
  rw [Nat.div_eq_of_lt h, dgs_zero, Lib.decDigits_one h]
  unfold dc
  rw [Nat.mod_eq_of_lt h]
theorem decDigits_big {u : Nat} (h : ¬ u < 10) : Lib.decDigits u = Lib.decDigits (u / 10) ++ [dc u] := by
  rw [Lib.decDigits, dif_neg h]; rfl
/-- The numeral, filled up with noughts. -/
theorem dgs_pad : ∀ (k u : Nat), u < 10 ^ (k + 1) → (Lib.decDigits u).length ≤ k + 1 ∧ List.replicate (k + 1 - (Lib.decDigits u).length) 48 ++ Lib.decDigits u = dgs (k + 1) u
  | 0, u, h => by
    have h1 : u < 10 := by simpa using h
    rw [dgs_small h1, Lib.decDigits_one h1]
    simp
  | k + 1, u, h => by
    by_cases h1 : u < 10
    · rw [dgs_small h1, Lib.decDigits_one h1]
      simp
    · have h2 : u / 10 < 10 ^ (k + 1) := by rw [Nat.pow_succ] at h; omega
      obtain ⟨l1, l2⟩ := dgs_pad k (u / 10) h2
      rw [decDigits_big h1]
      refine ⟨by simp; omega, ?_⟩
      rw [List.length_append, ← List.append_assoc]
      show _ = dgs (k + 1) (u / 10) ++ [dc u]
      rw [← l2]
      simp
/-- How a text of digits is read on. -/
def val (acc : Nat) (l : List UInt8) : Nat := l.foldl (fun a c => a * 10 + (c.toNat - 48)) acc
def digit (c : UInt8) : Prop := 48 ≤ c.toNat ∧ c.toNat ≤ 57
theorem dc_digit (d : Nat) : digit (dc d) := by unfold digit; rw [dc_toNat]; omega
theorem dgs_digit : ∀ (k u : Nat), ∀ c ∈ dgs k u, digit c
  | 0, _, c, h => by simp [dgs] at h
  | k + 1, u, c, h => by
    rcases List.mem_append.1 h with h | h
    · exact dgs_digit k _ c h
    · rw [List.mem_singleton.1 h]; exact dc_digit u
theorem val_snoc (acc : Nat) (l : List UInt8) (c : UInt8) : val acc (l ++ [c]) = val acc l * 10 + (c.toNat - 48) := by simp [val]
theorem val_dgs : ∀ (k u : Nat), u < 10 ^ k → val 0 (dgs k u) = u
  | 0, u, h => by simp [dgs, val] at *; omega
  | k + 1, u, h => by
    show val 0 (dgs k (u / 10) ++ [dc u]) = u
    rw [val_snoc, val_dgs k (u / 10) (by rw [Nat.pow_succ] at h; omega), dc_toNat]
    omega
theorem val_lt : ∀ (l : List UInt8) (acc : Nat), (∀ c ∈ l, digit c) → val acc l < (acc + 1) * 10 ^ l.length
  | [], acc, _ => by simp [val]
  | c :: l, acc, h => by
    have hc := h c (List.mem_cons_self ..)
    have hi := val_lt l (acc * 10 + (c.toNat - 48)) fun x hx => h x (List.mem_cons_of_mem _ hx)
    unfold digit at hc
    have e : val acc (c :: l) = val (acc * 10 + (c.toNat - 48)) l := rfl
    rw [e]
    refine Nat.lt_of_lt_of_le hi ?_
    rw [List.length_cons, Nat.pow_succ', ← Nat.mul_assoc]
    exact Nat.mul_le_mul_right _ (by omega)
theorem dgs_val : ∀ (k : Nat) (l : List UInt8), l.length = k → (∀ c ∈ l, digit c) → dgs k (val 0 l) = l
  | 0, l, hl, _ => by rw [List.length_eq_zero_iff.1 hl]; rfl
  | k + 1, l, hl, h => by
    have hne : l ≠ [] := fun e => by rw [e] at hl; simp at hl
    obtain ⟨a, c, rfl⟩ : ∃ a c, l = a ++ [c] := ⟨l.dropLast, l.getLast hne, (List.dropLast_concat_getLast hne).symm⟩
    have ih := dgs_val k a (by simpa using hl) fun x hx => h x (List.mem_append_left _ hx)
    have hc : digit c := h c (List.mem_append_right _ (List.mem_singleton.2 rfl))
    unfold digit at hc
    show dgs k (val 0 (a ++ [c]) / 10) ++ [dc (val 0 (a ++ [c]))] = _
    rw [val_snoc, show (val 0 a * 10 + (c.toNat - 48)) / 10 = val 0 a by omega, ih]
    congr 2
    apply UInt8.toNat_inj.1
    rw [dc_toNat]
    omega
theorem dgs_mod : ∀ k u : Nat, dgs k (u % 10 ^ k) = dgs k u
  | 0, _ => rfl
  | k + 1, u => by
    show dgs k (u % 10 ^ (k + 1) / 10) ++ [dc (u % 10 ^ (k + 1))] = dgs k (u / 10) ++ [dc u]
    have h1 : u % 10 ^ (k + 1) / 10 = u / 10 % 10 ^ k := by rw [Nat.pow_succ', Nat.mod_mul_right_div_self]
    have h2 : dc (u % 10 ^ (k + 1)) = dc u := by
      apply UInt8.toNat_inj.1
      rw [dc_toNat, dc_toNat, Nat.pow_succ', Nat.mod_mul_right_mod]
    rw [h1, h2, dgs_mod k]
theorem dgs_lt : ∀ k u v : Nat, u < 10 ^ k → v < 10 ^ k → (dgs k u < dgs k v ↔ u < v)
  | 0, u, v, hu, hv => by
    have : u = 0 := by simpa using hu
    have : v = 0 := by simpa using hv
    subst_vars
    simp [dgs]
  | k + 1, u, v, hu, hv => by
    have hp : 0 < 10 ^ k := Nat.pow_pos (by decide)
    have hq : u / 10 ^ k < 10 ∧ v / 10 ^ k < 10 := by rw [Nat.pow_succ] at hu hv; exact ⟨Nat.div_lt_of_lt_mul hu, Nat.div_lt_of_lt_mul hv⟩
    rw [dgs_front, dgs_front, List.cons_lt_cons_iff, dc_lt, ← dgs_mod k u, ← dgs_mod k v, dgs_lt k _ _ (Nat.mod_lt _ hp) (Nat.mod_lt _ hp), Nat.mod_eq_of_lt hq.1, Nat.mod_eq_of_lt hq.2]
    have e1 := Nat.div_add_mod u (10 ^ k)
    have e2 := Nat.div_add_mod v (10 ^ k)
    have m1 := Nat.mod_lt u hp
    have m2 := Nat.mod_lt v hp
    generalize 10 ^ k = p at *
    generalize u / p = a at *
    generalize v / p = b at *
    generalize u % p = c at *
    generalize v % p = d at *
    have hm : ∀ x y : Nat, x < y → p * x + p ≤ p * y := fun x y h => by have := Nat.mul_le_mul_left p (Nat.succ_le_of_lt h); rw [Nat.mul_succ] at this; exact this
    constructor
    · rintro (h | ⟨h1, h2⟩)
      · have := hm a b h; omega
      · have h3 := dc_inj a b h1
        rw [Nat.mod_eq_of_lt hq.1, Nat.mod_eq_of_lt hq.2] at h3
        subst h3; omega
    · intro h
      rcases Nat.lt_trichotomy a b with h3 | h3 | h3
      · exact .inl h3
      · subst h3; exact .inr ⟨rfl, by omega⟩
      · have := hm b a h3; omega
theorem dgs_inj (k u v : Nat) (hu : u < 10 ^ k) (hv : v < 10 ^ k) (h : dgs k u = dgs k v) : u = v := by rw [← val_dgs k u hu, h, val_dgs k v hv]

theorem parseM_digits : ∀ (l : List UInt8) (acc : Nat), (∀ c ∈ l, digit c) → (acc + 1) * 10 ^ l.length ≤ 1000000000000000000 → Lib.parseUintM 18446744073709551615 acc l = .ok (val acc l)
  | [], _, _, _ => rfl
  | c :: l, acc, h, hb => by
    have hc := h c (List.mem_cons_self ..)
    have h10 : 1 ≤ 10 ^ l.length := Nat.pow_pos (by decide)
    rw [List.length_cons, Nat.pow_succ', ← Nat.mul_assoc] at hb
    have hacc : (acc + 1) * 10 ≤ 1000000000000000000 := Nat.le_trans (Nat.le_mul_of_pos_right _ h10) hb
    unfold Lib.parseUintM
    unfold digit at hc
    rw [if_pos hc, if_neg (by omega), if_neg (by omega)]
    rw [parseM_digits l _ (fun x hx => h x (List.mem_cons_of_mem _ hx)) (Nat.le_trans (Nat.mul_le_mul_right _ (by omega)) hb)]
    rfl
theorem digits_parse (l : List UInt8) (h : ∀ c ∈ l, digit c) (hne : l ≠ []) (hl : l.length ≤ 18) : Lib.parseIntB 64 l = .ok (val 0 l) ∧ Lib.atoiAll l = .ok (val 0 l) := by
  have hp : 10 ^ l.length ≤ 10 ^ 18 := Nat.pow_le_pow_right (by decide) hl
  have hM := parseM_digits l 0 h (by simpa using hp)
  have hv := val_lt l 0 h
  have hv2 : val 0 l < 1000000000000000000 := by omega
  cases l with
  | nil => exact absurd rfl hne
  | cons c r =>
    have hc := h c (List.mem_cons_self ..)
    unfold digit at hc
    constructor
    · rw [Lib.parseIntB_plain 64 c r (by omega) (by omega)]
      unfold Lib.parseUintB
      rw [if_neg (by simp)]
      show Lib.signlessC _ (Lib.parseUintM 18446744073709551615 0 (c :: r)) = _
      rw [hM]
      unfold Lib.signlessC
      have : ¬ (2 ^ (64 - 1) ≤ val 0 (c :: r)) := by
        have : (2 ^ (64 - 1) : Nat) = 9223372036854775808 := by decide
        omega
      simp only [this, if_false]
    · rw [Lib.atoiAll_plain c r (by omega) (by omega)]
      unfold Lib.parseMag
      rw [if_neg (by simp), ← Lib.parseUintM_64, hM]
      unfold Lib.signless
      have : ¬ (9223372036854775808 ≤ val 0 (c :: r)) := by omega
      simp only [this, if_false]

/-! Cut at dashes. -/
theorem index_dash : ∀ (x r : List UInt8), 45 ∉ x → Lib.index (x ++ 45 :: r) [45] = x.length
  | [], r, _ => by simp [Lib.index]
  | b :: x, r, h => by
    have hb : b ≠ 45 := fun e => h (e ▸ List.mem_cons_self ..)
    have hi := index_dash x r fun e => h (List.mem_cons_of_mem _ e)
    show Lib.index (b :: (x ++ 45 :: r)) [45] = _
    unfold Lib.index
    rw [hi, if_neg (by simp; exact fun e => hb e.symm), if_neg (by simp <;> omega)]
    simp
theorem split_dash (k : Nat) (x r : List UInt8) (h : 45 ∉ x) : Lib.splitK [45] 0 (k + 1) (x ++ 45 :: r) = x :: Lib.splitK [45] 0 k r := by
  have hi := index_dash x r h
  show (if Lib.index (x ++ 45 :: r) [45] == -1 then _ else _) = _
  rw [hi, if_neg (by simp <;> omega)]
  simp

/-! Lists of one length, one behind the other. -/
theorem append_lt : ∀ (a b x y : List UInt8), a.length = b.length → (a ++ x < b ++ y ↔ a < b ∨ (a = b ∧ x < y))
  | [], [], x, y, _ => by simp
  | [], _ :: _, _, _, h => by simp at h
  | _ :: _, [], _, _, h => by simp at h
  | c :: a, d :: b, x, y, h => by
    have ih := append_lt a b x y (by simpa using h)
    simp only [List.cons_append, List.cons_lt_cons_iff, ih, List.cons.injEq]
    constructor
    · rintro (h1 | ⟨h1, h2 | ⟨h2, h3⟩⟩)
      · exact .inl (.inl h1)
      · exact .inl (.inr ⟨h1, h2⟩)
      · exact .inr ⟨⟨h1, h2⟩, h3⟩
    · rintro ((h1 | ⟨h1, h2⟩) | ⟨⟨h1, h2⟩, h3⟩)
      · exact .inl h1
      · exact .inr ⟨h1, .inl h2⟩
      · exact .inr ⟨h1, .inr ⟨h2, h3⟩⟩

/-! Names. -/
def right (b : Int) : Prop := 0 ≤ b ∧ b ≤ 1099511627776
instance (b : Int) : Decidable (right b) := inferInstanceAs (Decidable (_ ∧ _))
/-- `log-` -/
def log : List UInt8 := [108, 111, 103, 45]
def segN (b : Nat) : List UInt8 := log ++ dgs 13 b
def seg (b : Int) : List UInt8 := if right b then segN b.toNat else []
def letter (c : UInt8) : Bool := 97 ≤ c && c ≤ 122
def kindly (s : List UInt8) : Bool := decide (1 ≤ s.length) && decide (s.length ≤ 8) && s.all letter
def idly (i : Int) : Prop := 0 ≤ i ∧ i ≤ 2147483647
instance (b : Int) : Decidable (idly b) := inferInstanceAs (Decidable (_ ∧ _))
/-- `seg-` -/
def seg4 : List UInt8 := [115, 101, 103, 45]
def objN (i : Nat) (k : List UInt8) (b : Nat) : List UInt8 := seg4 ++ (dgs 10 i ++ (45 :: (k ++ (45 :: dgs 13 b))))
def obj (i : Int) (k : List UInt8) (b : Int) : List UInt8 := if idly i ∧ kindly k = true ∧ right b then objN i.toNat k b.toNat else []
theorem segN_length (b : Nat) : (segN b).length = 17 := by simp [segN, log, dgs_length]
theorem objN_length (i : Nat) (k : List UInt8) (b : Nat) : (objN i k b).length = 29 + k.length := by simp [objN, seg4, dgs_length]; omega
theorem right_lt {b : Int} (h : right b) : b.toNat < 10 ^ 13 := by unfold right at h; omega
theorem idly_lt {b : Int} (h : idly b) : b.toNat < 10 ^ 10 := by unfold idly at h; omega
theorem segN_lt (a b : Nat) (ha : a < 10 ^ 13) (hb : b < 10 ^ 13) : segN a < segN b ↔ a < b := by
  unfold segN
  rw [append_lt _ _ _ _ rfl, dgs_lt 13 a b ha hb]
  constructor
  · rintro (h | h)
    · exact absurd h (List.lt_irrefl _)
    · exact h.2
  · exact fun h => .inr ⟨rfl, h⟩
theorem segN_inj (a b : Nat) (ha : a < 10 ^ 13) (hb : b < 10 ^ 13) (h : segN a = segN b) : a = b := dgs_inj 13 a b ha hb (List.append_cancel_left h)
theorem dash_dgs (k u : Nat) : 45 ∉ dgs k u := fun h => by have := dgs_digit k u _ h; unfold digit at this; simp at this
theorem dash_kind (k : List UInt8) (h : kindly k = true) : 45 ∉ k := fun hm => by
  unfold kindly at h
  simp only [Bool.and_eq_true, List.all_eq_true] at h
  have := h.2 _ hm
  simp [letter] at this
theorem split_obj (i : Nat) (k : List UInt8) (b : Nat) (hk : kindly k = true) : Lib.splitK [45] 0 3 (objN i k b) = [[115, 101, 103], dgs 10 i, k, dgs 13 b] := by
  have e : objN i k b = [115, 101, 103] ++ 45 :: (dgs 10 i ++ 45 :: (k ++ 45 :: dgs 13 b)) := rfl
  rw [e, split_dash 2 _ _ (by decide), split_dash 1 _ _ (dash_dgs _ _), split_dash 0 _ _ (dash_kind k hk)]
  rfl
end Go.Proofs.YtfdppggdgdnnaaaGreatDoor.Nm

namespace Go.Proofs.YtfdppggdgdnnaaaGreatDoor.Nm

abbrev Tx := List UInt8
theorem tx_tri (a b : Tx) : a < b ∨ a = b ∨ b < a := by
  by_cases h1 : a < b
  · exact .inl h1
  · by_cases h2 : b < a
    · exact .inr (.inr h2)
    · exact .inr (.inl (List.le_antisymm (List.not_lt.1 h2) (List.not_lt.1 h1)))
/-- Two lists that rise, with the same members, are one. -/
theorem strict_ext : ∀ (a b : List Tx), a.Pairwise (· < ·) → b.Pairwise (· < ·) → (∀ x, x ∈ a ↔ x ∈ b) → a = b
  | [], [], _, _, _ => rfl
  | [], y :: b, _, _, h => absurd ((h y).2 (List.mem_cons_self ..)) List.not_mem_nil
  | x :: a, [], _, _, h => absurd ((h x).1 (List.mem_cons_self ..)) List.not_mem_nil
  | x :: a, y :: b, ha, hb, h => by
    rw [List.pairwise_cons] at ha hb
    have hxy : x = y := by
      rcases List.mem_cons.1 ((h x).1 (List.mem_cons_self ..)) with e | e
      · exact e
      · rcases List.mem_cons.1 ((h y).2 (List.mem_cons_self ..)) with e2 | e2
        · exact e2.symm
        · exact absurd (List.lt_trans (hb.1 x e) (ha.1 y e2)) (List.lt_irrefl _)
    subst hxy
    rw [strict_ext a b ha.2 hb.2 fun z => ?_]
    constructor
    · intro hz
      rcases List.mem_cons.1 ((h z).1 (List.mem_cons_of_mem _ hz)) with e | e
      · subst e; exact absurd (ha.1 _ hz) (List.lt_irrefl _)
      · exact e
    · intro hz
      rcases List.mem_cons.1 ((h z).2 (List.mem_cons_of_mem _ hz)) with e | e
      · subst e; exact absurd (hb.1 _ hz) (List.lt_irrefl _)
      · exact e
/-- Put in place, once. -/
def ins (x : Tx) : List Tx → List Tx
  | [] => [x]
  | y :: l => if y < x then y :: ins x l else if y = x then y :: l else x :: y :: l
theorem mem_ins (x z : Tx) : ∀ l, z ∈ ins x l ↔ z = x ∨ z ∈ l
  | [] => by simp [ins]
  | y :: l => by
    unfold ins
    split
    · rw [List.mem_cons, mem_ins x z l, List.mem_cons]
      constructor
      · rintro (h | h | h)
        · exact .inr (.inl h)
        · exact .inl h
        · exact .inr (.inr h)
      · rintro (h | h | h)
        · exact .inr (.inl h)
        · exact .inl h
        · exact .inr (.inr h)
    · split
      · rename_i e; subst e; simp
      · simp
theorem ins_rises (x : Tx) : ∀ l, l.Pairwise (· < ·) → (ins x l).Pairwise (· < ·)
  | [], _ => by simp [ins]
  | y :: l, h => by
    rw [List.pairwise_cons] at h
    unfold ins
    split
    · rename_i hlt
      rw [List.pairwise_cons]
      refine ⟨fun z hz => ?_, ins_rises x l h.2⟩
      rcases (mem_ins x z l).1 hz with e | e
      · subst e; exact hlt
      · exact h.1 z e
    · rename_i hlt
      split
      · rw [List.pairwise_cons]; exact h
      · rename_i hne
        have hxy : x < y := by
          rcases tx_tri y x with e | e | e
          · exact absurd e hlt
          · exact absurd e hne
          · exact e
        rw [List.pairwise_cons, List.pairwise_cons]
        refine ⟨fun z hz => ?_, h⟩
        rcases List.mem_cons.1 hz with e | e
        · subst e; exact hxy
        · exact List.lt_trans hxy (h.1 z e)
def rising (l : List Tx) : List Tx := l.foldl (fun o x => ins x o) []
theorem rising_go : ∀ (l o : List Tx), o.Pairwise (· < ·) → (l.foldl (fun o x => ins x o) o).Pairwise (· < ·) ∧ ∀ z, z ∈ l.foldl (fun o x => ins x o) o ↔ z ∈ o ∨ z ∈ l
  | [], o, h => ⟨h, fun z => by simp⟩
  | x :: l, o, h => by
    obtain ⟨h1, h2⟩ := rising_go l (ins x o) (ins_rises x o h)
    refine ⟨h1, fun z => ?_⟩
    rw [List.foldl_cons, h2 z, mem_ins, List.mem_cons]
    constructor
    · rintro ((h | h) | h)
      · exact .inr (.inl h)
      · exact .inl h
      · exact .inr (.inr h)
    · rintro (h | h | h)
      · exact .inl (.inr h)
      · exact .inl (.inl h)
      · exact .inr h
theorem rising_rises (l : List Tx) : (rising l).Pairwise (· < ·) := (rising_go l [] List.Pairwise.nil).1
theorem mem_rising (l : List Tx) (z : Tx) : z ∈ rising l ↔ z ∈ l := by
  have := (rising_go l [] List.Pairwise.nil).2 z
  simpa [rising] using this
/-- Sorted texts made compact rise; the members are the same. -/
theorem compact_go (d : Array Tx) (hs : ∀ i j, i < j → j < d.size → d[i]! ≤ d[j]!) : ∀ m, m ≤ d.size → (Lib.compactUpTo d m).Pairwise (· < ·) ∧ (∀ z ∈ Lib.compactUpTo d m, ∃ j, j < m ∧ z = d[j]!) ∧ (∀ j, j < m → d[j]! ∈ Lib.compactUpTo d m)
  | 0, _ => ⟨by simp [Lib.compactUpTo], by simp [Lib.compactUpTo], fun j h => absurd h (Nat.not_lt_zero _)⟩
  | m + 1, hm => by
    obtain ⟨h1, h2, h3⟩ := compact_go d hs m (by omega)
    rw [Lib.compactUpTo_succ]
    by_cases hk : Lib.keeps d m = true
    · rw [if_pos hk]
      refine ⟨?_, ?_, ?_⟩
      · rw [List.pairwise_append]
        refine ⟨h1, List.pairwise_singleton _ _, fun a ha b hb => ?_⟩
        rw [List.mem_singleton.1 hb]
        obtain ⟨j, hj, rfl⟩ := h2 a ha
        have hle := hs j m hj (by omega)
        rcases tx_tri d[j]! d[m]! with e | e | e
        · exact e
        · exfalso
          have hm0 : 0 < m := by omega
          unfold Lib.keeps at hk
          have hne : d[m]! ≠ d[m - 1]! := by
            rcases of_decide_eq_true hk with e2 | e2
            · omega
            · exact e2
          apply hne
          have h4 := hs (m - 1) m (by omega) (by omega)
          have h5 : d[j]! ≤ d[m - 1]! := by
            by_cases e3 : j = m - 1
            · rw [e3]; exact List.le_refl _
            · exact hs j (m - 1) (by omega) (by omega)
          rw [e] at h5
          exact List.le_antisymm h5 h4
        · exact absurd e (List.not_lt.2 hle)
      · intro z hz
        rcases List.mem_append.1 hz with e | e
        · obtain ⟨j, hj, rfl⟩ := h2 z e; exact ⟨j, by omega, rfl⟩
        · exact ⟨m, by omega, List.mem_singleton.1 e⟩
      · intro j hj
        by_cases e : j = m
        · subst e; exact List.mem_append_right _ (List.mem_singleton.2 rfl)
        · exact List.mem_append_left _ (h3 j (by omega))
    · rw [if_neg hk, List.append_nil]
      refine ⟨h1, fun z hz => ?_, fun j hj => ?_⟩
      · obtain ⟨j, hj, rfl⟩ := h2 z hz; exact ⟨j, by omega, rfl⟩
      · by_cases e : j = m
        · subst e
          unfold Lib.keeps at hk
          have h5 : ¬ (j = 0 ∨ d[j]! ≠ d[j - 1]!) := fun h => hk (decide_eq_true h)
          have h6 : j ≠ 0 := fun h => h5 (.inl h)
          have h7 : d[j]! = d[j - 1]! := Classical.byContradiction fun h => h5 (.inr h)
          rw [h7]
          exact h3 (j - 1) (by omega)
        · exact h3 j (by omega)
theorem compact_rising (l zs : List Tx) (hp : ∀ z, z ∈ zs ↔ z ∈ l) (hs : zs.Pairwise (· ≤ ·)) : Lib.compact zs = rising l := by
  have ha : ∀ i, (h : i < zs.length) → zs.toArray[i]! = zs[i] := fun i h => by simp [h]
  obtain ⟨h1, h2, h3⟩ := compact_go zs.toArray (fun i j hij hj => by
    have hj' : j < zs.length := by simpa using hj
    rw [ha i (by omega), ha j hj']
    exact List.pairwise_iff_getElem.1 hs i j (by omega) hj' hij) zs.length (by simp)
  refine strict_ext _ _ h1 (rising_rises l) fun x => ?_
  rw [mem_rising, ← hp]
  constructor
  · intro hx
    obtain ⟨j, hj, rfl⟩ := h2 x hx
    rw [ha j hj]
    exact List.getElem_mem _
  · intro hx
    obtain ⟨j, hj, rfl⟩ := List.mem_iff_getElem.1 hx
    rw [← ha j hj]
    exact h3 j hj
theorem compact_le (zs : List Tx) : (Lib.compact zs).length ≤ zs.length := by
  unfold Lib.compact Lib.compactUpTo
  rw [List.length_map]
  exact Nat.le_trans (List.length_filter_le _ _) (by simp)
end Go.Proofs.YtfdppggdgdnnaaaGreatDoor.Nm

namespace Go.Proofs.YtfdppggdgdnnaaaGreatDoor
open Go.RowKit Go.Shelf

abbrev str (l : List UInt8) : Value := .string ⟨l.toArray⟩
theorem repeatX : Builder.Extra Tryz.prog lay_repeatF_ren := { sizeBuilder := by kernel_rfl, liesBuilder := by kernel_rfl, t5 := Tryz.underlying5, a5 := Tryz.isAgg5, z5 := Tryz.sizeOf5, v5 := Tryz.zeroValue5, infoByte := by kernel_rfl, cellsByte := by kernel_rfl, sizeByte := by kernel_rfl, neB5 := by decide }
theorem hasPrefix_any (s p : List UInt8) (w : World) : Calls Tryz.prog 160 #[str s, str p] w fun e w' => e = .returned (.bool (Lib.hasPrefix s p)) ∧ w' = w :=
  Any.strings_HasPrefix lay_hasPrefixF ⟨s.toArray⟩ ⟨p.toArray⟩ w
/-- As many noughts. -/
theorem noughts_any (c : Nat) (w : World) (hc : c ≤ 1000) : Calls Tryz.prog 145 #[.string ⟨#[48]⟩, .int .i64 (c : Int)] w fun e w' => e = .returned (str (List.replicate c 48)) ∧ Below w.heap.size w w' :=
  (Any.strings_Repeat lay_repeatF repeatX ⟨#[48]⟩ c w (by omega) (by show 1 * c ≤ _; omega)).mono fun e w' ⟨he, hb⟩ => ⟨by
    rw [he]
    have h := Lib.repeatL_replicate 48 1 c
    rw [Nat.mul_one] at h
    show Ending.returned (str (Lib.repeatL [48] c)) = _
    rw [show ([48] : List UInt8) = List.replicate 1 48 from rfl, h], hb⟩
end Go.Proofs.YtfdppggdgdnnaaaGreatDoor

namespace Go.Proofs.YtfdppggdgdnnaaaGreatDoor
open Go.RowKit Go.Shelf

/-- The library's powers of ten. -/
def PowTab (w : World) : Prop := Lib.TabIs Tryz.prog w "internal/strconv.uint64pow10" .u64 Lib.pow10Tab
theorem PowTab.below {w w' : World} (h : PowTab w) (hb : Below w.heap.size w w') : PowTab w' := by
  have hg : Tryz.prog.globalNamed "internal/strconv.uint64pow10" = some 21 := by kernel_rfl
  have hlt : 21 < w.heap.size := by
    have h' := h
    unfold PowTab Lib.TabIs World.var? at h'
    rw [hg] at h'
    rcases Nat.lt_or_ge 21 w.heap.size with h1 | h1
    · exact h1
    · simp [Array.getElem?_eq_none h1] at h'
  exact var?_below hb hg hlt h

theorem itoa_any (n : Nat) (w : World) (hn : n ≤ 9223372036854775807) (ht : PowTab w) : Calls Tryz.prog 144 #[.int .i64 (n : Int), .int .i64 10] w fun e w' => e = .returned (str (Lib.decDigits n)) ∧ Below w.heap.size w w' :=
  (Any.strconv_FormatInt_10 lay_formatF (n : Int) (by omega) (by omega) w ht).mono fun e w' ⟨he, k, os, hw⟩ => ⟨by
    rw [he]
    unfold Lib.itoa
    rw [if_neg (by omega)]
    rfl, by rw [hw]; exact below_grown_sl w.heap.size w k os (Nat.le_refl _)⟩

set_option maxRecDepth 100000 in
theorem digits_any (k n : Nat) (m : Int) (hmm : m = ((k + 1 : Nat) : Int)) (w : World) (hk : k ≤ 17) (hn : n < 10 ^ (k + 1)) (ht : PowTab w) :
    Calls Tryz.prog 130 #[.int .i64 (n : Int), .int .i64 m] w fun e w' => e = .returned (str (Nm.dgs (k + 1) n)) ∧ Below w.heap.size w w' := by
  subst hmm
  obtain ⟨h1, h2⟩ := Nm.dgs_pad k n hn
  have hp : 10 ^ (k + 1) ≤ 10 ^ 18 := Nat.pow_le_pow_right (by decide) (by omega)
  have HI := Lib.hid (itoa_any n w (by omega) ht)
  obtain ⟨r, hr⟩ : ∃ r, r = Nm.dgs (k + 1) n := ⟨_, rfl⟩
  rw [← hr] at h2 ⊢
  generalize Lib.decDigits n = l at *
  obtain ⟨m, hm⟩ : ∃ m, m = k + 1 := ⟨_, rfl⟩
  rw [← hm] at h1 h2 ⊢
  have hm18 : m ≤ 18 := by omega
  have hw1 : IntKind.i64.wrap ((m : Int) - (l.length : Int)) = ((m - l.length : Nat) : Int) := by rw [IntWalk.i64_in _ (by omega)]; omega
  have H2 := Lib.hid h2
  clear ht hr hn hp h2 hm
  go_enter Tryz.func130, Tryz.ntmps130
  go_wp2_with (first
    | (go_at_call 144; refine HI.out.mono ?_; rintro e w1 ⟨rfl, hb1⟩; have HB1 := Lib.hid hb1; clear hb1)
    | (go_at_call 145; refine (noughts_any (m - l.length) w1 (by omega)).mono ?_; rintro e w2 ⟨rfl, hb2⟩; have HB2 := Lib.hid hb2; clear hb2)
    | fail)
  go_ret
  refine ⟨?_, HB1.out.trans (HB2.out.mono HB1.out.size)⟩
  rw [← H2.out]
  congr 2

def rightB (b : Int) : Bool := decide (Nm.right b)
theorem nRight_any (b : Int) (w : World) : Calls Tryz.prog 129 #[.int .i64 b] w fun e w' => e = .returned (.bool (rightB b)) ∧ w' = w := by
  by_cases h1 : 0 ≤ b
  · have d1 : decide (0 ≤ b) = true := by simp [h1]
    by_cases h2 : b ≤ 1099511627776
    · have d2 : decide (b ≤ 1099511627776) = true := by simp [h2]
      have hr : rightB b = true := by simp [rightB, Nm.right, h1, h2]
      rw [hr]
      go_enter Tryz.func129, Tryz.ntmps129
      go_wp2_with fail
      go_ret
      exact ⟨rfl, rfl⟩
    · have d2 : decide (b ≤ 1099511627776) = false := by simp; omega
      have hr : rightB b = false := decide_eq_false fun h => by unfold Nm.right at h; omega
      rw [hr]
      go_enter Tryz.func129, Tryz.ntmps129
      go_wp2_with fail
      go_ret
      exact ⟨rfl, rfl⟩
  · have d1 : decide (0 ≤ b) = false := by simp; omega
    have hr : rightB b = false := decide_eq_false fun h => by unfold Nm.right at h; omega
    rw [hr]
    go_enter Tryz.func129, Tryz.ntmps129
    go_wp2_with fail
    go_ret
    exact ⟨rfl, rfl⟩

set_option maxRecDepth 100000 in
theorem segment_any (b : Int) (w : World) (ht : PowTab w) : Calls Tryz.prog 111 #[.int .i64 b] w fun e w' => e = .returned (str (Nm.seg b)) ∧ Below w.heap.size w w' := by
  by_cases hr : Nm.right b
  · have hb := hr
    unfold Nm.right at hb
    obtain ⟨n, rfl⟩ := Int.eq_ofNat_of_zero_le hb.1
    have HD := Lib.hid (digits_any 12 n 13 rfl w (by omega) (by omega) ht)
    have HR := Lib.hid (nRight_any (n : Int) w)
    rw [show rightB (n : Int) = true from decide_eq_true hr] at HR
    have hs : Nm.seg (n : Int) = Nm.log ++ Nm.dgs 13 n := by unfold Nm.seg; rw [if_pos hr]; rfl
    have HS := Lib.hid hs
    generalize Nm.seg (n : Int) = r at *
    have hdl : (Nm.dgs 13 n).length ≤ 13 := by rw [Nm.dgs_length]; exact Nat.le_refl _
    generalize Nm.dgs 13 n = d at *
    clear hb hr ht hs
    go_enter Tryz.func111, Tryz.ntmps111
    go_wp2_with (first
      | (go_at_call 129; refine HR.out.mono ?_; rintro e w1 ⟨rfl, rfl⟩)
      | (go_at_call 130; refine HD.out.mono ?_; rintro e w2 ⟨rfl, hb2⟩; have HB2 := Lib.hid hb2; clear hb2)
      | fail)
    go_ret
    refine ⟨?_, HB2.out⟩
    rw [HS.out]
    congr 2
  · have HR := Lib.hid (nRight_any b w)
    rw [show rightB b = false from decide_eq_false hr] at HR
    have hs : Nm.seg b = [] := by unfold Nm.seg; rw [if_neg hr]
    rw [hs]
    clear hr ht hs
    go_enter Tryz.func111, Tryz.ntmps111
    go_wp2_with (first
      | (go_at_call 129; refine HR.out.mono ?_; rintro e w1 ⟨rfl, rfl⟩)
      | fail)
    go_ret
    exact ⟨rfl, Below.refl _ _⟩
end Go.Proofs.YtfdppggdgdnnaaaGreatDoor
