/-
  Names, plainly: numbers in so many digits, what they are read as, how they stand to one another; segments' and objects' names; texts that rise, each once.
-/
import Derived.Lib.ParseIntB
import Derived.Lib.ParseIntBCases
import Derived.Lib.ItoaNum
import Derived.Lib.Repeat
import Derived.Lib.Join
import Derived.Lib.Split
import Derived.Lib.SplitLaws
namespace Go.Proofs.YtnjcngmmgceijaaDoor.Nm

/-- A digit's byte. -/
def dc (d : Nat) : UInt8 := UInt8.ofNat (48 + d % 10)
theorem dc_toNat (d : Nat) : (dc d).toNat = 48 + d % 10 := by
  unfold dc
  rw [UInt8.toNat_ofNat']
  omega
theorem dc_lt (a b : Nat) : dc a < dc b ↔ a % 10 < b % 10 := by
  rw [UInt8.lt_iff_toNat_lt, dc_toNat, dc_toNat]
  omega
theorem dc_inj (a b : Nat) (h : dc a = dc b) : a % 10 = b % 10 := by
  have := congrArg UInt8.toNat h
  rw [dc_toNat, dc_toNat] at this
  omega
/-- A number in so many digits. -/
def dgs : Nat → Nat → List UInt8
  | 0, _ => []
  | k + 1, u => dgs k (u / 10) ++ [dc u]
theorem dgs_length : ∀ (k u : Nat), (dgs k u).length = k
  | 0, _ => rfl
  | k + 1, u => by simp [dgs, dgs_length k]
theorem dgs_front : ∀ (k u : Nat), dgs (k + 1) u = dc (u / 10 ^ k) :: dgs k u
  | 0, u => by simp [dgs]
  | k + 1, u => by
    show dgs (k + 1) (u / 10) ++ [dc u] = _
    rw [dgs_front k (u / 10), Nat.div_div_eq_div_mul, ← Nat.pow_succ']
    rfl
theorem dgs_zero : ∀ k : Nat, dgs k 0 = List.replicate k 48
  | 0 => rfl
  | k + 1 => by
    show dgs k (0 / 10) ++ [dc 0] = _
    rw [Nat.zero_div, dgs_zero k, List.replicate_succ']
    rfl
theorem dgs_small {k u : Nat} (h : u < 10) : dgs (k + 1) u = List.replicate k 48 ++ Lib.decDigits u := by
  show dgs k (u / 10) ++ [dc u] = _
  rw [Nat.div_eq_of_lt h, dgs_zero, Lib.decDigits_one h]
  unfold dc
  rw [Nat.mod_eq_of_lt h]
theorem decDigits_big {u : Nat} (h : ¬ u < 10) : Lib.decDigits u = Lib.decDigits (u / 10) ++ [dc u] := by
  rw [Lib.decDigits, dif_neg h]; rfl
/-- The numeral, filled up with noughts. -/
theorem dgs_pad : ∀ (k u : Nat), u < 10 ^ (k + 1) → (Lib.decDigits u).length ≤ k + 1 ∧ List.replicate (k + 1 - (Lib.decDigits u).length) 48 ++ Lib.decDigits u = dgs (k + 1) u
  | 0, u, h => by
    have h1 : u < 10 := by simpa using h
    rw [dgs_small h1, Lib.decDigits_one h1]
    simp
  | k + 1, u, h => by
    by_cases h1 : u < 10
    · rw [dgs_small h1, Lib.decDigits_one h1]
      simp
    · have h2 : u / 10 < 10 ^ (k + 1) := by rw [Nat.pow_succ] at h; omega
      obtain ⟨l1, l2⟩ := dgs_pad k (u / 10) h2
      rw [decDigits_big h1]
      refine ⟨by simp; omega, ?_⟩
      rw [List.length_append, ← List.append_assoc]
      show _ = dgs (k + 1) (u / 10) ++ [dc u]
      rw [← l2]
      simp
/-- How a text of digits is read on. -/
def val (acc : Nat) (l : List UInt8) : Nat := l.foldl (fun a c => a * 10 + (c.toNat - 48)) acc
def digit (c : UInt8) : Prop := 48 ≤ c.toNat ∧ c.toNat ≤ 57
theorem dc_digit (d : Nat) : digit (dc d) := by unfold digit; rw [dc_toNat]; omega
theorem dgs_digit : ∀ (k u : Nat), ∀ c ∈ dgs k u, digit c
  | 0, _, c, h => by simp [dgs] at h
  | k + 1, u, c, h => by
    rcases List.mem_append.1 h with h | h
    · exact dgs_digit k _ c h
    · rw [List.mem_singleton.1 h]; exact dc_digit u
theorem val_snoc (acc : Nat) (l : List UInt8) (c : UInt8) : val acc (l ++ [c]) = val acc l * 10 + (c.toNat - 48) := by simp [val]
theorem val_dgs : ∀ (k u : Nat), u < 10 ^ k → val 0 (dgs k u) = u
  | 0, u, h => by simp [dgs, val] at *; omega
  | k + 1, u, h => by
    show val 0 (dgs k (u / 10) ++ [dc u]) = u
    rw [val_snoc, val_dgs k (u / 10) (by rw [Nat.pow_succ] at h; omega), dc_toNat]
    omega
theorem val_lt : ∀ (l : List UInt8) (acc : Nat), (∀ c ∈ l, digit c) → val acc l < (acc + 1) * 10 ^ l.length
  | [], acc, _ => by simp [val]
  | c :: l, acc, h => by
    have hc := h c (List.mem_cons_self ..)
    have hi := val_lt l (acc * 10 + (c.toNat - 48)) fun x hx => h x (List.mem_cons_of_mem _ hx)
    unfold digit at hc
    have e : val acc (c :: l) = val (acc * 10 + (c.toNat - 48)) l := rfl
    rw [e]
    refine Nat.lt_of_lt_of_le hi ?_
    rw [List.length_cons, Nat.pow_succ', ← Nat.mul_assoc]
    exact Nat.mul_le_mul_right _ (by omega)
theorem dgs_val : ∀ (k : Nat) (l : List UInt8), l.length = k → (∀ c ∈ l, digit c) → dgs k (val 0 l) = l
  | 0, l, hl, _ => by rw [List.length_eq_zero_iff.1 hl]; rfl
  | k + 1, l, hl, h => by
    have hne : l ≠ [] := fun e => by rw [e] at hl; simp at hl
    obtain ⟨a, c, rfl⟩ : ∃ a c, l = a ++ [c] := ⟨l.dropLast, l.getLast hne, (List.dropLast_concat_getLast hne).symm⟩
    have ih := dgs_val k a (by simpa using hl) fun x hx => h x (List.mem_append_left _ hx)
    have hc : digit c := h c (List.mem_append_right _ (List.mem_singleton.2 rfl))
    unfold digit at hc
    show dgs k (val 0 (a ++ [c]) / 10) ++ [dc (val 0 (a ++ [c]))] = _
    rw [val_snoc, show (val 0 a * 10 + (c.toNat - 48)) / 10 = val 0 a by omega, ih]
    congr 2
    apply UInt8.toNat_inj.1
    rw [dc_toNat]
    omega
theorem dgs_mod : ∀ k u : Nat, dgs k (u % 10 ^ k) = dgs k u
  | 0, _ => rfl
  | k + 1, u => by
    show dgs k (u % 10 ^ (k + 1) / 10) ++ [dc (u % 10 ^ (k + 1))] = dgs k (u / 10) ++ [dc u]
    have h1 : u % 10 ^ (k + 1) / 10 = u / 10 % 10 ^ k := by rw [Nat.pow_succ', Nat.mod_mul_right_div_self]
    have h2 : dc (u % 10 ^ (k + 1)) = dc u := by
      apply UInt8.toNat_inj.1
      rw [dc_toNat, dc_toNat, Nat.pow_succ', Nat.mod_mul_right_mod]
    rw [h1, h2, dgs_mod k]
theorem dgs_lt : ∀ k u v : Nat, u < 10 ^ k → v < 10 ^ k → (dgs k u < dgs k v ↔ u < v)
  | 0, u, v, hu, hv => by
    have : u = 0 := by simpa using hu
    have : v = 0 := by simpa using hv
    subst_vars
    simp [dgs]
  | k + 1, u, v, hu, hv => by
    have hp : 0 < 10 ^ k := Nat.pow_pos (by decide)
    have hq : u / 10 ^ k < 10 ∧ v / 10 ^ k < 10 := by rw [Nat.pow_succ] at hu hv; exact ⟨Nat.div_lt_of_lt_mul hu, Nat.div_lt_of_lt_mul hv⟩
    rw [dgs_front, dgs_front, List.cons_lt_cons_iff, dc_lt, ← dgs_mod k u, ← dgs_mod k v, dgs_lt k _ _ (Nat.mod_lt _ hp) (Nat.mod_lt _ hp), Nat.mod_eq_of_lt hq.1, Nat.mod_eq_of_lt hq.2]
    have e1 := Nat.div_add_mod u (10 ^ k)
    have e2 := Nat.div_add_mod v (10 ^ k)
    have m1 := Nat.mod_lt u hp
    have m2 := Nat.mod_lt v hp
    generalize 10 ^ k = p at *
    generalize u / p = a at *
    generalize v / p = b at *
    generalize u % p = c at *
    generalize v % p = d at *
    have hm : ∀ x y : Nat, x < y → p * x + p ≤ p * y := fun x y h => by have := Nat.mul_le_mul_left p (Nat.succ_le_of_lt h); rw [Nat.mul_succ] at this; exact this
    constructor
    · rintro (h | ⟨h1, h2⟩)
      · have := hm a b h; omega
      · have h3 := dc_inj a b h1
        rw [Nat.mod_eq_of_lt hq.1, Nat.mod_eq_of_lt hq.2] at h3
        subst h3; omega
    · intro h
      rcases Nat.lt_trichotomy a b with h3 | h3 | h3
      · exact .inl h3
      · subst h3; exact .inr ⟨rfl, by omega⟩
      · have := hm b a h3; omega
theorem dgs_inj (k u v : Nat) (hu : u < 10 ^ k) (hv : v < 10 ^ k) (h : dgs k u = dgs k v) : u = v := by rw [← val_dgs k u hu, h, val_dgs k v hv]

theorem parseM_digits : ∀ (l : List UInt8) (acc : Nat), (∀ c ∈ l, digit c) → (acc + 1) * 10 ^ l.length ≤ 1000000000000000000 → Lib.parseUintM 18446744073709551615 acc l = .ok (val acc l)
  | [], _, _, _ => rfl
  | c :: l, acc, h, hb => by
    have hc := h c (List.mem_cons_self ..)
    have h10 : 1 ≤ 10 ^ l.length := Nat.pow_pos (by decide)
    rw [List.length_cons, Nat.pow_succ', ← Nat.mul_assoc] at hb
    have hacc : (acc + 1) * 10 ≤ 1000000000000000000 := Nat.le_trans (Nat.le_mul_of_pos_right _ h10) hb
    unfold Lib.parseUintM
    unfold digit at hc
    rw [if_pos hc, if_neg (by omega), if_neg (by omega)]
    rw [parseM_digits l _ (fun x hx => h x (List.mem_cons_of_mem _ hx)) (Nat.le_trans (Nat.mul_le_mul_right _ (by omega)) hb)]
    rfl
theorem digits_parse (l : List UInt8) (h : ∀ c ∈ l, digit c) (hne : l ≠ []) (hl : l.length ≤ 18) : Lib.parseIntB 64 l = .ok (val 0 l) ∧ Lib.atoiAll l = .ok (val 0 l) := by
  have hp : 10 ^ l.length ≤ 10 ^ 18 := Nat.pow_le_pow_right (by decide) hl
  have hM := parseM_digits l 0 h (by simpa using hp)
  have hv := val_lt l 0 h
  have hv2 : val 0 l < 1000000000000000000 := by omega
  cases l with
  | nil => exact absurd rfl hne
  | cons c r =>
    have hc := h c (List.mem_cons_self ..)
    unfold digit at hc
    constructor
    · rw [Lib.parseIntB_plain 64 c r (by omega) (by omega)]
      unfold Lib.parseUintB
      rw [if_neg (by simp)]
      show Lib.signlessC _ (Lib.parseUintM 18446744073709551615 0 (c :: r)) = _
      rw [hM]
      unfold Lib.signlessC
      have : ¬ (2 ^ (64 - 1) ≤ val 0 (c :: r)) := by
        have : (2 ^ (64 - 1) : Nat) = 9223372036854775808 := by decide
        omega
      simp only [this, if_false]
    · rw [Lib.atoiAll_plain c r (by omega) (by omega)]
      unfold Lib.parseMag
      rw [if_neg (by simp), ← Lib.parseUintM_64, hM]
      unfold Lib.signless
      have : ¬ (9223372036854775808 ≤ val 0 (c :: r)) := by omega
      simp only [this, if_false]

/-! Cut at dashes. -/
theorem index_dash : ∀ (x r : List UInt8), 45 ∉ x → Lib.index (x ++ 45 :: r) [45] = x.length
  | [], r, _ => by simp [Lib.index]
  | b :: x, r, h => by
    have hb : b ≠ 45 := fun e => h (e ▸ List.mem_cons_self ..)
    have hi := index_dash x r fun e => h (List.mem_cons_of_mem _ e)
    show Lib.index (b :: (x ++ 45 :: r)) [45] = _
    unfold Lib.index
    rw [hi, if_neg (by simp; exact fun e => hb e.symm), if_neg (by simp <;> omega)]
    simp
theorem split_dash (k : Nat) (x r : List UInt8) (h : 45 ∉ x) : Lib.splitK [45] 0 (k + 1) (x ++ 45 :: r) = x :: Lib.splitK [45] 0 k r := by
  have hi := index_dash x r h
  show (if Lib.index (x ++ 45 :: r) [45] == -1 then _ else _) = _
  rw [hi, if_neg (by simp <;> omega)]
  simp

/-! Lists of one length, one behind the other. -/
theorem append_lt : ∀ (a b x y : List UInt8), a.length = b.length → (a ++ x < b ++ y ↔ a < b ∨ (a = b ∧ x < y))
  | [], [], x, y, _ => by simp
  | [], _ :: _, _, _, h => by simp at h
  | _ :: _, [], _, _, h => by simp at h
  | c :: a, d :: b, x, y, h => by
    have ih := append_lt a b x y (by simpa using h)
    simp only [List.cons_append, List.cons_lt_cons_iff, ih, List.cons.injEq]
    constructor
    · rintro (h1 | ⟨h1, h2 | ⟨h2, h3⟩⟩)
      · exact .inl (.inl h1)
      · exact .inl (.inr ⟨h1, h2⟩)
      · exact .inr ⟨⟨h1, h2⟩, h3⟩
    · rintro ((h1 | ⟨h1, h2⟩) | ⟨⟨h1, h2⟩, h3⟩)
      · exact .inl h1
      · exact .inr ⟨h1, .inl h2⟩
      · exact .inr ⟨h1, .inr ⟨h2, h3⟩⟩

/-! Names. -/
def right (b : Int) : Prop := 0 ≤ b ∧ b ≤ 1099511627776
instance (b : Int) : Decidable (right b) := inferInstanceAs (Decidable (_ ∧ _))
/-- `log-` -/
def log : List UInt8 := [108, 111, 103, 45]
def segN (b : Nat) : List UInt8 := log ++ dgs 13 b
def seg (b : Int) : List UInt8 := if right b then segN b.toNat else []
def letter (c : UInt8) : Bool := 97 ≤ c && c ≤ 122
def kindly (s : List UInt8) : Bool := decide (1 ≤ s.length) && decide (s.length ≤ 8) && s.all letter
def idly (i : Int) : Prop := 0 ≤ i ∧ i ≤ 2147483647
instance (b : Int) : Decidable (idly b) := inferInstanceAs (Decidable (_ ∧ _))
/-- `seg-` -/
def seg4 : List UInt8 := [115, 101, 103, 45]
def objN (i : Nat) (k : List UInt8) (b : Nat) : List UInt8 := seg4 ++ (dgs 10 i ++ (45 :: (k ++ (45 :: dgs 13 b))))
def obj (i : Int) (k : List UInt8) (b : Int) : List UInt8 := if idly i ∧ kindly k = true ∧ right b then objN i.toNat k b.toNat else []
theorem segN_length (b : Nat) : (segN b).length = 17 := by simp [segN, log, dgs_length]
theorem objN_length (i : Nat) (k : List UInt8) (b : Nat) : (objN i k b).length = 29 + k.length := by simp [objN, seg4, dgs_length]; omega
theorem right_lt {b : Int} (h : right b) : b.toNat < 10 ^ 13 := by unfold right at h; omega
theorem idly_lt {b : Int} (h : idly b) : b.toNat < 10 ^ 10 := by unfold idly at h; omega
theorem segN_lt (a b : Nat) (ha : a < 10 ^ 13) (hb : b < 10 ^ 13) : segN a < segN b ↔ a < b := by
  unfold segN
  rw [append_lt _ _ _ _ rfl, dgs_lt 13 a b ha hb]
  constructor
  · rintro (h | h)
    · exact absurd h (List.lt_irrefl _)
    · exact h.2
  · exact fun h => .inr ⟨rfl, h⟩
theorem segN_inj (a b : Nat) (ha : a < 10 ^ 13) (hb : b < 10 ^ 13) (h : segN a = segN b) : a = b := dgs_inj 13 a b ha hb (List.append_cancel_left h)
theorem dash_dgs (k u : Nat) : 45 ∉ dgs k u := fun h => by have := dgs_digit k u _ h; unfold digit at this; simp at this
theorem dash_kind (k : List UInt8) (h : kindly k = true) : 45 ∉ k := fun hm => by
  unfold kindly at h
  simp only [Bool.and_eq_true, List.all_eq_true] at h
  have := h.2 _ hm
  simp [letter] at this
theorem split_obj (i : Nat) (k : List UInt8) (b : Nat) (hk : kindly k = true) : Lib.splitK [45] 0 3 (objN i k b) = [[115, 101, 103], dgs 10 i, k, dgs 13 b] := by
  have e : objN i k b = [115, 101, 103] ++ 45 :: (dgs 10 i ++ 45 :: (k ++ 45 :: dgs 13 b)) := rfl
  rw [e, split_dash 2 _ _ (by decide), split_dash 1 _ _ (dash_dgs _ _), split_dash 0 _ _ (dash_kind k hk)]
  rfl
end Go.Proofs.YtnjcngmmgceijaaDoor.Nm
