/-
  The walk through package vint's Get.
  The walk through package vint's GetInt.
  Get and GetInt as the walks ask them; what they answer of what Put laid.
  A reader in memory: its three cells, its bytes, its error. The walk through its fail.
  What a plain reader reads of a number or a text laid there; its error at the end.
  Numbers and texts laid one behind the other, plainly; what a plain reader reads there.
  What a reader reads of bytes is what is written as just these bytes: numbers, plainly. Nothing of any program is named here.
-/
import Derived.Test.YtcmgppacipdnaaaGreatDoorQ6
import Derived.Test.YtcmgppacipdnaaaGreatDoorQ4
import Derived.Deep.CutBlock
import Derived.Deep.DeepCutAuto
import Derived.BigQuiet
import Derived.Deep.QuietTactic
import Derived.IntWalk
namespace Go.Proofs.YtcmgppacipdnaaaGreatDoor
open Go.RowKit

theorem ret3 {a b c a' b' c' : Value} (h1 : a = a') (h2 : b = b') (h3 : c = c') : Ending.returned (.tuple #[a, b, c]) = Ending.returned (.tuple #[a', b', c']) := by rw [h1, h2, h3]
theorem drewN_two (w : World) (a b : Nat) : ∃ n, (w.drewN a).drewN b = w.drewN n := ⟨a + b, by rw [World.drewN_drewN]⟩
/-- The error of a number. -/
def errOf (p : Nat → Addr) (c : Nat) : Value := if c = 0 then .nilIface else errV (p (c - 101))

theorem andNot128 (x : UInt8) : bits .andNot .u8 (B x) 128 = ((x.toNat % 128 : Nat) : Int) := by
  unfold B
  rw [show (128 : Int) = ((128 : Nat) : Int) from rfl, u8_andNot_nat _ _ x.toNat_lt (by omega)]
  congr 1
  exact Nat.and_two_pow_sub_one_eq_mod x.toNat 7
theorem or64 (n x i : Nat) (hn : n < 2 ^ (7 * i)) (hn2 : n < 18446744073709551616) (h : x * 2 ^ (7 * i) < 18446744073709551616) : bits .or .u64 (n : Int) (IntKind.u64.wrap ((x : Int) * 2 ^ (7 * i))) = ((n + x * 2 ^ (7 * i) : Nat) : Int) := by
  have e : IntKind.u64.wrap ((x : Int) * 2 ^ (7 * i)) = ((x * 2 ^ (7 * i) : Nat) : Int) := by
    have : ((x : Int) * 2 ^ (7 * i)) = ((x * 2 ^ (7 * i) : Nat) : Int) := by simp
    rw [IntKind.wrap_u64, this]; omega
  rw [e, u64_or_nat _ _ hn2 h, Nat.or_comm, nat_join (7 * i) _ _ (Nat.mul_mod_left _ _) hn, Nat.add_comm]
theorem pow63 (k : Nat) (h : k ≤ 9) : 2 ^ (7 * k) ≤ 9223372036854775808 := Nat.le_trans (Nat.pow_le_pow_right (by omega) (show 7 * k ≤ 63 by omega)) (by decide)
theorem pow56 (k : Nat) (h : k ≤ 8) : 2 ^ (7 * k) ≤ 72057594037927936 := Nat.le_trans (Nat.pow_le_pow_right (by omega) (show 7 * k ≤ 56 by omega)) (by decide)
theorem or_at (acc x k : Nat) (hk : k ≤ 9) (hacc : acc < 2 ^ (7 * k)) (hx : x < 128) (h : k ≤ 8 ∨ x ≤ 1) : bits .or .u64 (acc : Int) (IntKind.u64.wrap ((x : Int) * 2 ^ (7 * k))) = ((acc + x * 2 ^ (7 * k) : Nat) : Int) := by
  have h9 := pow63 k hk
  refine or64 acc x k hacc (by omega) ?_
  rcases h with h | h
  · have h1 := pow56 k h
    have : x * 2 ^ (7 * k) ≤ 127 * 72057594037927936 := Nat.mul_le_mul (by omega) h1
    omega
  · have : x * 2 ^ (7 * k) ≤ 1 * 9223372036854775808 := Nat.mul_le_mul h h9
    omega
theorem acc_next (acc x k : Nat) (hacc : acc < 2 ^ (7 * k)) (hx : x < 128) : acc + x * 2 ^ (7 * k) < 2 ^ (7 * (k + 1)) := by
  rw [Vi.pow7]
  have : x * 2 ^ (7 * k) ≤ 127 * 2 ^ (7 * k) := Nat.mul_le_mul_right _ (by omega)
  omega

set_option maxRecDepth 100000 in
set_option maxHeartbeats 1000000 in
theorem get_any (A : Option Addr) (cap : Nat) (l : List UInt8) (w : World) (p : Nat → Addr) (hl : l.length ≤ 1000000) (hc : l.length ≤ cap) (hr : Reads w A l) (hs : SentsV w p) :
    Calls Tryz.prog 247 #[.slice A l.length cap] w fun e w' => e = .returned (.tuple #[.int .u64 (Vi.get 0 0 l).1, .int .i64 (Vi.get 0 0 l).2.1, errOf p (Vi.get 0 0 l).2.2]) ∧ ∃ n, w' = w.drewN n := by
  have HR := hide hr
  have k1 := fun W q h => run_cut_h W A l.length cap q h
  have K1 := hide k1
  have c1 : w.cell? ⟨8, 0, none⟩ = some (.iface 297 (.pointer (some (p 0)))) := hs.cell 0 (by omega)
  have c2 : w.cell? ⟨2, 0, none⟩ = some (.iface 297 (.pointer (some (p 2)))) := hs.cell 2 (by omega)
  have C1 := hide c1
  have C2 := hide c2
  clear hr hs k1 c1 c2
  go_enter Tryz.func247, Tryz.ntmps247
  go_upto_region 2 with fail
  obtain ⟨m, hm⟩ : ∃ m, m = min l.length 10 := ⟨_, rfl⟩
  have k2 := fun W => K1.out W m (by omega)
  go_cut [12, 13, 14] (fun s n i wx => s = .slice A m cap ∧ n = .int .i64 m ∧ i = .int .i64 0 ∧ w = wx)
  case first =>
    go_wp2_with fail
    · go_meet
      obtain rfl : m = 10 := by omega
      exact ⟨rfl, rfl, rfl, rfl⟩
    · go_meet
      obtain rfl : m = l.length := by omega
      exact ⟨rfl, rfl, rfl, rfl⟩
  case rest =>
    obtain ⟨rfl, rfl, rfl, rfl⟩ := hcut
    have hm1 : m ≤ 10 := by omega
    have hm2 : m ≤ l.length := by omega
    have HM := hide hm
    clear hm k2
    go_wp2_with fail
    go_loopw [5, 14] (fun n i wr => ∃ (k : Nat) (v : Int) (acc : Nat), k ≤ m ∧ i = .int .i64 k ∧ n = .int .u64 v ∧ (k ≤ 9 → v = acc) ∧ acc < 2 ^ (7 * k) ∧ Vi.get k acc (l.drop k) = Vi.get 0 0 l ∧ ∃ q, wr = w.drewN q) (fun _ i _ => m - (intOf i).toNat)
    case atStart => exact ⟨0, 0, 0, Nat.zero_le _, rfl, rfl, fun _ => rfl, by omega, rfl, 0, rfl⟩
    case round =>
      obtain ⟨k, v, acc, hk, rfl, rfl, hv, hacc, hg, q, rfl⟩ := hrel
      by_cases hlt : k < m
      · have hv9 := hv (by omega)
        subst hv9
        have hkl : k < l.length := by omega
        rcases HR.out with rfl | ⟨b, off, rfl, hb, hcl⟩
        · simp at hkl
        have hcell := hcl k hkl
        have hd : l.drop k = l.getD k 0 :: l.drop (k + 1) := by
          rw [List.drop_eq_getElem_cons hkl]; simp [List.getD, hkl]
        rw [hd, Vi.get, if_neg (by omega)] at hg
        clear hcl hd hv
        generalize l.getD k 0 = c at *
        have ha := andNot128 c
        have hb1 := B_lo c
        have hb2 := B_hi c
        have hcB : B c = (c.toNat : Int) := rfl
        have HCB := hide hcB
        have hx : c.toNat % 128 < 128 := by omega
        by_cases h128 : 128 ≤ c.toNat
        · rw [if_pos h128] at hg
          have hB : 128 ≤ B c := by rw [hcB]; omega
          have HG := hide hg
          have HACC := hide (acc_next acc (c.toNat % 128) k hacc hx)
          have HOR := hide (fun h8 : k ≤ 8 => or_at acc (c.toNat % 128) k (by omega) hacc hx (.inl h8))
          clear hg hcB hacc
          generalize c.toNat % 128 = x at *
          go_wp2_with fail
          exact ⟨⟨k + 1, _, acc + x * 2 ^ (7 * k), by omega, by go_num, rfl, fun h9 => HOR.out (by omega), HACC.out, HG.out, _, rfl⟩, by simp [intOf]; omega⟩
        · rw [if_neg h128] at hg
          have hB : B c < 128 := by rw [hcB]; omega
          have hxc : c.toNat % 128 = c.toNat := by omega
          have HX := hide hxc
          have HOR := hide (fun h8 => or_at acc (c.toNat % 128) k (by omega) hacc hx h8)
          clear hacc hxc
          generalize c.toNat % 128 = x at *
          by_cases hs : (c.toNat = 0 ∧ 0 < k) ∨ (1 < c.toNat ∧ k = 9)
          · rw [if_pos hs] at hg
            have HG := hide hg
            have c2 := C2.out
            rcases hs with ⟨h1, h2⟩ | ⟨h1, h2⟩
            · have hz : (B c == 0) = true := by rw [hcB, h1]; rfl
              clear hg hcB h1 h128
              go_wp2_with fail
              go_quiet (fail)
              go_wp2_with fail
              go_ret3
              exact ⟨by rw [← HG.out]; rfl, drewN_two _ _ _⟩
            · have hz : (B c == 0) = false := by rw [beq_eq_false_iff_ne, hcB]; omega
              have h19 : 1 < B c := by rw [hcB]; omega
              have hk9 : ((k : Int) == 9) = true := by rw [h2]; rfl
              clear hg hcB h1 h2 h128
              go_wp2_with fail
              go_quiet (fail)
              go_wp2_with fail
              go_ret3
              exact ⟨by rw [← HG.out]; rfl, drewN_two _ _ _⟩
          · rw [if_neg hs] at hg
            have HG := hide hg
            have HOR8 := hide ((HOR.out (by have := HX.out; omega)).trans (show _ = ((acc + c.toNat * 2 ^ (7 * k) : Nat) : Int) by rw [HX.out]))
            by_cases h0 : c.toNat = 0
            · have hz : (B c == 0) = true := by rw [hcB, h0]; rfl
              have hk0 : k ≤ 0 := by omega
              have hcB0 : B c ≤ 1 := by rw [hcB]; omega
              clear hg hcB h0 h128 hs
              go_wp2_with fail
              go_ret3
              exact ⟨by rw [← HG.out]; exact ret3 (congrArg (Value.int .u64) HOR8.out) rfl rfl, q, rfl⟩
            · have hz : (B c == 0) = false := by rw [beq_eq_false_iff_ne, hcB]; omega
              by_cases h1 : 1 < c.toNat
              · have h19 : 1 < B c := by rw [hcB]; omega
                have hk9 : ((k : Int) == 9) = false := by rw [beq_eq_false_iff_ne]; omega
                clear hg hcB h0 h1 h128 hs
                go_wp2_with fail
                go_ret3
                exact ⟨by rw [← HG.out]; exact ret3 (congrArg (Value.int .u64) HOR8.out) rfl rfl, q, rfl⟩
              · have h19 : B c ≤ 1 := by rw [hcB]; omega
                clear hg hcB h0 h1 h128 hs
                go_wp2_with fail
                go_ret3
                exact ⟨by rw [← HG.out]; exact ret3 (congrArg (Value.int .u64) HOR8.out) rfl rfl, q, rfl⟩
      · obtain rfl : k = m := by omega
        have HG := hide hg
        have HMM := hide (HM.out)
        have c1 := C1.out
        have c2 := C2.out
        by_cases h10 : l.length < 10
        · obtain rfl : k = l.length := by have := HM.out; omega
          clear hg hv hacc
          go_wp2_with fail
          go_quiet (fail)
          go_wp2_with fail
          go_ret3
          exact ⟨by rw [← HG.out, List.drop_of_length_le (Nat.le_refl _), Vi.get, if_pos h10]; rfl, drewN_two _ _ _⟩
        · obtain rfl : k = 10 := by have := HM.out; omega
          clear hg hv hacc
          go_wp2_with fail
          go_quiet (fail)
          go_wp2_with fail
          go_ret3
          have hsh : Vi.get 10 acc (l.drop 10) = (0, 0, 103) := by
            cases l.drop 10 with
            | nil => rfl
            | cons c r => rw [Vi.get, if_pos (by omega)]
          exact ⟨by rw [← HG.out, hsh]; rfl, drewN_two _ _ _⟩
end Go.Proofs.YtcmgppacipdnaaaGreatDoor

namespace Go.Proofs.YtcmgppacipdnaaaGreatDoor
open Go.RowKit

theorem xor_i64_nil (a : Nat) (ha : a < 9223372036854775808) : bits .xor .i64 (a : Int) 0 = (a : Int) := by
  show IntKind.i64.wrap ((BitVec.ofInt 64 (a : Int) ^^^ BitVec.ofInt 64 (0 : Int)).toNat : Int) = _
  rw [BitVec.toNat_xor, ofInt_i64 a ha, show (BitVec.ofInt 64 (0 : Int)).toNat = 0 from by decide, Nat.xor_zero, IntKind.wrap_i64]
  omega
theorem xor_i64_all (a : Nat) (ha : a < 9223372036854775808) : bits .xor .i64 (a : Int) (-1) = -(a : Int) - 1 := by
  show IntKind.i64.wrap ((BitVec.ofInt 64 (a : Int) ^^^ BitVec.ofInt 64 (-1 : Int)).toNat : Int) = _
  rw [BitVec.toNat_xor, ofInt_i64 a ha, show (BitVec.ofInt 64 (-1 : Int)).toNat = 18446744073709551615 from by decide]
  have h := ofInt_all a (by omega)
  rw [show (18446744073709551615 : Int) = ((18446744073709551615 : Nat) : Int) from rfl, u64_xor_nat _ _ (by omega) (by omega)] at h
  rw [h, IntKind.wrap_i64]
  omega
theorem and1_u64 (a : Nat) (ha : a < 18446744073709551616) : bits .and .u64 (a : Int) 1 = ((a % 2 : Nat) : Int) := by
  rw [show (1 : Int) = ((1 : Nat) : Int) from rfl, u64_and_nat _ _ ha (by omega), nat_mask1]

set_option maxRecDepth 100000 in
set_option maxHeartbeats 400000 in
theorem getInt_any (A : Option Addr) (cap : Nat) (l : List UInt8) (w : World) (p : Nat → Addr) (hl : l.length ≤ 1000000) (hc : l.length ≤ cap) (hr : Reads w A l) (hs : SentsV w p) :
    Calls Tryz.prog 245 #[.slice A l.length cap] w fun e w' => e = .returned (.tuple #[.int .i64 (Vi.unzz (Vi.get 0 0 l).1), .int .i64 (Vi.get 0 0 l).2.1, errOf p (Vi.get 0 0 l).2.2]) ∧ ∃ n, w' = w.drewN n := by
  have HG := hide (get_any A cap l w p hl hc hr hs)
  obtain ⟨hb, -⟩ := Vi.get_lt l 0 0 (by omega) (by omega)
  clear hr hs hl hc
  generalize Vi.get 0 0 l = g at *
  have ha := and1_u64 g.1 hb
  have hdv : g.1 / 2 < 9223372036854775808 := by omega
  have hb2 : (g.1 : Int) / 2 ≤ 9223372036854775807 := by omega
  have hcast : (g.1 : Int) / 2 = ((g.1 / 2 : Nat) : Int) := by omega
  rcases Nat.mod_two_eq_zero_or_one g.1 with h2 | h2
  · have HU : Hid (Vi.unzz g.1 = ((g.1 / 2 : Nat) : Int)) := by show _ = _; unfold Vi.unzz; rw [if_pos h2]
    rw [h2] at ha
    have hx := xor_i64_nil _ hdv
    rw [← hcast] at hx HU
    clear hb hdv h2 hcast
    go_enter Tryz.func245, Tryz.ntmps245
    go_wp2_with fail
    refine HG.out.mono ?_
    rintro e w' ⟨rfl, n, rfl⟩
    generalize hE : errOf p g.2.2 = E at *
    have HE := hide hE
    clear hE
    go_wp2_with fail
    go_ret3
    exact ⟨ret3 (congrArg (Value.int .i64) HU.out.symm) rfl HE.out.symm, n, rfl⟩
  · have HU : Hid (Vi.unzz g.1 = -((g.1 / 2 : Nat) : Int) - 1) := by show _ = _; unfold Vi.unzz; rw [if_neg (by omega)]
    rw [h2] at ha
    have hx := xor_i64_all _ hdv
    rw [← hcast] at hx HU
    clear hb hdv h2 hcast
    go_enter Tryz.func245, Tryz.ntmps245
    go_wp2_with fail
    refine HG.out.mono ?_
    rintro e w' ⟨rfl, n, rfl⟩
    generalize hE : errOf p g.2.2 = E at *
    have HE := hide hE
    clear hE
    go_wp2_with fail
    go_ret3
    exact ⟨ret3 (congrArg (Value.int .i64) HU.out.symm) rfl HE.out.symm, n, rfl⟩
end Go.Proofs.YtcmgppacipdnaaaGreatDoor

namespace Go.Proofs.YtcmgppacipdnaaaGreatDoor
open Go.RowKit

theorem get_at (A : Option Addr) (cap n : Nat) (l : List UInt8) (w : World) (p : Nat → Addr) (a k c : Nat) (hn : l.length = n) (hg : Vi.get 0 0 l = (a, k, c)) (hl : n ≤ 1000000) (ha : Arg w A cap l) (hs : SentsV w p) :
    Calls Tryz.prog 247 #[.slice A n cap] w fun e w' => e = .returned (.tuple #[.int .u64 a, .int .i64 k, errOf p c]) ∧ ∃ n, w' = w.drewN n := by
  subst hn
  have h := get_any A cap l w p hl ha.le ha.reads hs
  rw [hg] at h; exact h
theorem getInt_at (A : Option Addr) (cap n : Nat) (l : List UInt8) (w : World) (p : Nat → Addr) (a : Int) (k c : Nat) (hn : l.length = n) (hg : (Vi.unzz (Vi.get 0 0 l).1, (Vi.get 0 0 l).2) = (a, k, c)) (hl : n ≤ 1000000) (ha : Arg w A cap l) (hs : SentsV w p) :
    Calls Tryz.prog 245 #[.slice A n cap] w fun e w' => e = .returned (.tuple #[.int .i64 a, .int .i64 k, errOf p c]) ∧ ∃ n, w' = w.drewN n := by
  subst hn
  have h := getInt_any A cap l w p hl ha.le ha.reads hs
  have e1 := congrArg Prod.fst hg
  have e2 := congrArg Prod.snd hg
  simp only at e1 e2
  rw [e1, e2] at h; exact h
theorem get_of_put (u : Nat) (r : List UInt8) (hu : u < 18446744073709551616) : Vi.get 0 0 (Vi.put u ++ r) = (u, Vi.size u, 0) := by
  have h := Vi.get_put u 0 0 r (fun h => absurd h (Nat.lt_irrefl 0)) (by simpa using hu)
  simpa using h
end Go.Proofs.YtcmgppacipdnaaaGreatDoor

namespace Go.Proofs.YtcmgppacipdnaaaGreatDoor
open Go.RowKit

/-- An error with its place. -/
def atV (h : Nat) : Value := .iface 192 (.pointer (some ⟨h, 0, none⟩))
/-- What a reader's error is, by the plain reader's word. -/
def ErrIs (w : World) (p : Nat → Addr) (g : Nat) (E : Value) (s : Vi.Rs) : Prop :=
  (s.code = 0 ∧ s.pos = none ∧ E = .nilIface) ∨ (s.code = 101 ∧ s.pos = none ∧ E = errV (p 0)) ∨
  ∃ h q, (s.code = 103 ∨ s.code = 105) ∧ s.pos = some q ∧ E = atV h ∧ h ≠ g ∧ h < w.heap.size ∧ w.cell? ⟨h, 0, none⟩ = some (.int .i64 q) ∧ w.cell? ⟨h, 1, none⟩ = some (errV (p (s.code - 101)))

/-- The reader of l at block g, in the state s. -/
structure Rdr (w : World) (p : Nat → Addr) (g : Nat) (l : List UInt8) (s : Vi.Rs) : Prop where
  lt : g < w.heap.size
  free : ∀ k, w.frozen? ⟨g, k, none⟩ = false
  ok : Vi.Ok l s
  ex : ∃ A cap E, w.cell? ⟨g, 0, none⟩ = some (.slice A l.length cap) ∧ w.cell? ⟨g, 1, none⟩ = some (.int .i64 s.at_) ∧ w.cell? ⟨g, 2, none⟩ = some E ∧ Arg w A cap l ∧ (∀ b off, A = some ⟨b, off, none⟩ → b ≠ g) ∧ ErrIs w p g E s

/-- Only block g has been turned, beside new ones; not its first cell. -/
structure But (g : Nat) (w w' : World) : Prop where
  grown : w.grownBy w' (some g)
  first : g < w.heap.size → w'.cell? ⟨g, 0, none⟩ = w.cell? ⟨g, 0, none⟩
theorem But.size {g : Nat} {w w' : World} (h : But g w w') : w.heap.size ≤ w'.heap.size := h.grown.size
theorem But.block {g : Nat} {w w' : World} (h : But g w w') : ∀ k, k < w.heap.size → some k ≠ some g → w'.heap[k]? = w.heap[k]? := h.grown.block
theorem But.refl (g : Nat) (w : World) : But g w w := ⟨World.grownBy.refl w _, fun _ => rfl⟩
theorem But.trans {g : Nat} {a b c : World} (h : But g a b) (k : But g b c) : But g a c := ⟨World.grownBy.trans h.grown k.grown, fun hg => (k.first (Nat.lt_of_lt_of_le hg h.size)).trans (h.first hg)⟩
theorem But.of_below {g : Nat} {w w' : World} (h : Below w.heap.size w w') : But g w w' := ⟨⟨h.os, h.tape, h.output, h.size, fun k hk _ => h.block k hk⟩, fun hg => h.cell (p := ⟨g, 0, none⟩) hg⟩
theorem But.drewN (g : Nat) (w : World) (n : Nat) : But g w (w.drewN n) := But.of_below (below_drewN (Below.refl _ _) n)
theorem But.setCell (g k : Nat) (w : World) (v : Value) (hk : k ≠ 0 := by omega) : But g w (w.setCell ⟨g, k, none⟩ v) :=
  ⟨⟨rfl, rfl, rfl, by simp [World.setCell], fun i hi hne => Below.heap_setCell _ _ _ _ (by intro e; exact hne (by rw [e]))⟩, fun _ => World.cell?_setCell_other _ _ _ _ (by simp)⟩
theorem But.cell {g : Nat} {w w' : World} (h : But g w w') {b o : Nat} (hb : b < w.heap.size) (hne : b ≠ g) : w'.cell? ⟨b, o, none⟩ = w.cell? ⟨b, o, none⟩ := by
  have := h.block b hb (by simp [hne])
  simp [World.cell?, this]
theorem But.frozen {g : Nat} {w w' : World} (h : But g w w') {b o : Nat} (hb : b < w.heap.size) (hne : b ≠ g) : w'.frozen? ⟨b, o, none⟩ = w.frozen? ⟨b, o, none⟩ := by
  have := h.block b hb (by simp [hne])
  simp [World.frozen?, this]
theorem Reads.but {g : Nat} {w w' : World} {A : Option Addr} {l : List UInt8} (h : Reads w A l) (hb : But g w w') (hne : ∀ b off, A = some ⟨b, off, none⟩ → b ≠ g) : Reads w' A l := by
  rcases h with h | ⟨b, off, e, hlt, hc⟩
  · exact .inl h
  · exact .inr ⟨b, off, e, Nat.lt_of_lt_of_le hlt hb.size, fun k hk => (hb.cell hlt (hne b off e)).trans (hc k hk)⟩
theorem Arg.but {g : Nat} {w w' : World} {A : Option Addr} {cap : Nat} {l : List UInt8} (h : Arg w A cap l) (hb : But g w w') (hne : ∀ b off, A = some ⟨b, off, none⟩ → b ≠ g) : Arg w' A cap l := ⟨h.le, h.max, h.nil, h.reads.but hb hne⟩
theorem SentsOn.but {S : Nat → Prop} {g : Nat} {w w' : World} {p : Nat → Addr} (h : SentsOn S w p) (hb : But g w w') (hg : ∀ j, S j → gs.getD j 0 ≠ g) (hp : ∀ j, S j → (p j).block ≠ g) : SentsOn S w' p :=
  ⟨fun j hj => (hb.cell (h.size j hj) (hg j hj)).trans (h.cell j hj), fun j hj => by
    obtain ⟨h1, c, t, h2⟩ := h.blk j hj
    exact ⟨Nat.lt_of_lt_of_le h1 hb.size, c, t, (hb.block _ h1 (by simp; exact hp j hj)).trans h2⟩, h.ne⟩
theorem ErrIs.but {g : Nat} {w w' : World} {p : Nat → Addr} {E : Value} {s : Vi.Rs} (h : ErrIs w p g E s) (hb : But g w w') : ErrIs w' p g E s := by
  rcases h with h | h | ⟨a, q, h1, h2, h3, h4, h5, h6, h7⟩
  · exact .inl h
  · exact .inr (.inl h)
  · exact .inr (.inr ⟨a, q, h1, h2, h3, h4, Nat.lt_of_lt_of_le h5 hb.size, (hb.cell h5 h4).trans h6, (hb.cell h5 h4).trans h7⟩)
/-- A reader stays where its own block stays. -/
theorem Rdr.below {w w' : World} {p : Nat → Addr} {g : Nat} {l : List UInt8} {s : Vi.Rs} (h : Rdr w p g l s) (hb : Below w.heap.size w w') : Rdr w' p g l s := by
  obtain ⟨A, cap, E, h0, h1, h2, ha, hne, he⟩ := h.ex
  refine ⟨Nat.lt_of_lt_of_le h.lt hb.size, fun k => (hb.frozen (p := ⟨g, k, none⟩) h.lt).trans (h.free k), h.ok, A, cap, E, (hb.cell (p := ⟨g, 0, none⟩) h.lt).trans h0, (hb.cell (p := ⟨g, 1, none⟩) h.lt).trans h1, (hb.cell (p := ⟨g, 2, none⟩) h.lt).trans h2, ha.below hb (Nat.le_refl _), hne, ?_⟩
  exact he.but (But.of_below hb)
theorem Rdr.at_set {w : World} {p : Nat → Addr} {g : Nat} {l : List UInt8} {s : Vi.Rs} (h : Rdr w p g l s) (k : Nat) (hk : s.at_ + k ≤ l.length) (hz : s.code ≠ 0 → k = 0) : Rdr (w.setCell ⟨g, 1, none⟩ (.int .i64 ((s.at_ + k : Nat) : Int))) p g l (s.on k) := by
  obtain ⟨A, cap, E, h0, h1, h2, ha, hne, he⟩ := h.ex
  have hb : But g w (w.setCell ⟨g, 1, none⟩ (.int .i64 ((s.at_ + k : Nat) : Int))) := But.setCell _ _ _ _
  refine ⟨Nat.lt_of_lt_of_le h.lt hb.size, fun j => (World.frozen?_setCell _ _ _ _).trans (h.free j), ⟨hk, ?_⟩, A, cap, E, ?_, World.cell?_setCell_same _ _ _ h1, ?_, ha.but hb hne, hne, ?_⟩
  · rcases h.ok.code with h | h | ⟨h, h'⟩
    · exact .inl h
    · exact .inr (.inl h)
    · refine .inr (.inr ⟨h, ?_⟩)
      have : k = 0 := hz (by omega)
      subst this; exact h'
  · rw [World.cell?_setCell_other _ _ _ _ (by simp)]; exact h0
  · rw [World.cell?_setCell_other _ _ _ _ (by simp)]; exact h2
  · exact he.but hb
theorem Rdr.err_set {w : World} {p : Nat → Addr} {g : Nat} {l : List UInt8} {s s' : Vi.Rs} {E : Value} (h : Rdr w p g l s) (hok : Vi.Ok l s') (hat : s'.at_ = s.at_) (he : ErrIs w p g E s') : Rdr (w.setCell ⟨g, 2, none⟩ E) p g l s' := by
  obtain ⟨A, cap, E', h0, h1, h2, ha, hne, _⟩ := h.ex
  have hb : But g w (w.setCell ⟨g, 2, none⟩ E) := But.setCell _ _ _ _
  refine ⟨Nat.lt_of_lt_of_le h.lt hb.size, fun j => (World.frozen?_setCell _ _ _ _).trans (h.free j), hok, A, cap, E, ?_, ?_, World.cell?_setCell_same _ _ _ h2, ha.but hb hne, hne, he.but hb⟩
  · rw [World.cell?_setCell_other _ _ _ _ (by simp)]; exact h0
  · rw [World.cell?_setCell_other _ _ _ _ (by simp), hat]; exact h1

theorem neq_same (a : Addr) (w : World) : (binOp .neq 46 (errV a) (errV a)).run Tryz.prog w = .ok (.bool false) w := by
  obtain ⟨ms, i, j, h1, h2, h3, h4, h5⟩ := es_facts
  unfold errV
  simp only [binOp]
  simp [Op.equal, Op.maxDepth, run_equalIn_iface_ptr_same w 9998 a h1 es_pointee h2 h3 h4]
theorem neq_other (a b : Addr) (w : World) (hne : a ≠ b) (ha : ∃ c t, w.heap[a.block]? = some (.cells c t (0, 0))) (hb : ∃ c t, w.heap[b.block]? = some (.cells c t (0, 0))) : (binOp .neq 46 (errV a) (errV b)).run Tryz.prog w = .ok (.bool true) w := by
  obtain ⟨ms, i, j, h1, h2, h3, h4, h5⟩ := es_facts
  obtain ⟨c, t, hc⟩ := ha
  obtain ⟨c', t', hc'⟩ := hb
  unfold errV
  simp only [binOp]
  simp [Op.equal, Op.maxDepth, run_equalIn_iface_ptr_other w 9998 h1 es_pointee h2 h3 h4 h5 hne hc hc']
theorem iface_nil (u : TypeId) (x : Value) (w : World) (d : Nat) : (Op.equalIn (d + 1) 46 (.iface u x) .nilIface).run Tryz.prog w = .ok false w := by
  obtain ⟨ms, i, j, h1, h2, h3, h4, h5⟩ := es_facts
  simp [Op.equalIn, run_underlying h1]
theorem neq_nil (u : TypeId) (x : Value) (w : World) : (binOp .neq 46 (.iface u x) .nilIface).run Tryz.prog w = .ok (.bool true) w := by
  simp only [binOp]
  simp [Op.equal, Op.maxDepth, iface_nil u x w 9999]
theorem eqn_nil (u : TypeId) (x : Value) (w : World) : (binOp .eql 46 (.iface u x) .nilIface).run Tryz.prog w = .ok (.bool false) w := by
  simp only [binOp]
  simp [Op.equal, Op.maxDepth, iface_nil u x w 9999]

set_option maxRecDepth 100000 in
/-- fail by the end of the bytes. -/
theorem fail_end (w : World) (p : Nat → Addr) (g : Nat) (l : List UInt8) (s : Vi.Rs) (h : Rdr w p g l s) (hs : SentsV w p) :
    Calls Tryz.prog 214 #[.pointer (some ⟨g, 0, none⟩), errV (p 0)] w fun e w' => e = .returned (.tuple #[]) ∧ Rdr w' p g l (s.fail 101) ∧ But g w w' := by
  have hset := h.err_set (h.ok.fail (c := 101) (.inl rfl)) rfl (E := errV (p 0)) (.inr (.inl ⟨rfl, rfl, rfl⟩))
  have HSET := hide hset
  obtain ⟨A, cap, E, h0, h1, h2, _⟩ := h.ex
  have hfr := h.free 2
  have hlt := h.lt
  have c0 := hs.cell 0 (by omega)
  have k1 := neq_same (p 0)
  clear h hs hset
  change w.cell? ⟨8, 0, none⟩ = some (errV (p 0)) at c0
  unfold errV at *
  go_enter Tryz.func214, Tryz.ntmps214
  go_wp2_with fail
  go_end0
  exact ⟨rfl, HSET.out, But.setCell _ _ _ _⟩

set_option maxRecDepth 100000 in
/-- fail by another error: with its place. -/
theorem fail_at (w : World) (p : Nat → Addr) (g : Nat) (l : List UInt8) (s : Vi.Rs) (k : Nat) (hk : k = 2 ∨ k = 4) (h : Rdr w p g l s) (hs : SentsV w p) :
    Calls Tryz.prog 214 #[.pointer (some ⟨g, 0, none⟩), errV (p k)] w fun e w' => e = .returned (.tuple #[]) ∧ Rdr w' p g l (s.fail (101 + k)) ∧ But g w w' := by
  have hk19 : k = 0 ∨ k = 2 ∨ k = 4 := by omega
  have hb0 : Below w.heap.size w (w.alloc (.cells #[.int .i64 s.at_, errV (p k)] 196)) := balloc (Below.refl _ _) _
  have hset := (h.below hb0).err_set (s' := s.fail (101 + k)) (h.ok.fail (c := 101 + k) (by omega)) (by unfold Vi.Rs.fail; split <;> rfl) (E := atV w.heap.size) (.inr (.inr ⟨w.heap.size, s.at_, by unfold Vi.Rs.fail; rw [if_neg (by omega)]; show 101 + k = 103 ∨ 101 + k = 105; omega, by unfold Vi.Rs.fail; rw [if_neg (by omega)], rfl, by have := h.lt; omega, by simp, by simp, by
    unfold Vi.Rs.fail; rw [if_neg (by omega)]
    simp [Nat.add_sub_cancel_left]⟩))
  have hbut := (But.of_below (g := g) hb0).trans (But.setCell g 2 _ (atV w.heap.size))
  have HSET := hide hset
  have HBUT := hide hbut
  obtain ⟨A, cap, E, h0, h1, h2, _⟩ := h.ex
  have hfr := h.free 2
  have hlt := h.lt
  have c0 := hs.cell 0 (by omega)
  have k1 := neq_other (p k) (p 0) w (hs.ne k 0 hk19 (by omega) (by omega)) (hs.blk k hk19).2 (hs.blk 0 (by omega)).2
  clear h hs hset hbut hb0
  change w.cell? ⟨8, 0, none⟩ = some (errV (p 0)) at c0
  unfold errV at *
  unfold atV at *
  go_enter Tryz.func214, Tryz.ntmps214
  go_wp2_with fail
  go_end0
  have e := World.setCell_alloc_past (w := w) (.cells #[.int .i64 s.at_, .iface 297 (.pointer (some (p k)))] 196) g 2 (.iface 192 (.pointer (some ⟨w.heap.size, 0, none⟩))) hlt
  rw [← e]
  exact ⟨rfl, HSET.out, HBUT.out⟩
end Go.Proofs.YtcmgppacipdnaaaGreatDoor

namespace Go.Proofs.YtcmgppacipdnaaaGreatDoor
open Go.RowKit

/-- A reader that has met nothing amiss. -/
def fine (k : Nat) : Vi.Rs := ⟨k, 0, none⟩
def bad (k c : Nat) : Vi.Rs := ⟨k, c, some k⟩
theorem drop_pad (a b : List UInt8) (n : Nat) (h : a.length = n) : (a ++ b).drop n = b := by subst h; simp
theorem peek_at (l r : List UInt8) (k u most : Nat) (hu : u < 18446744073709551616) (h : l.drop k = Vi.put u ++ r) : Vi.peek l (fine k) most = if most < u then (0, 0, bad k 105) else (u, Vi.size u, fine k) := by
  unfold Vi.peek
  rw [if_neg (by simp [fine])]
  simp only [fine, h, get_of_put u r hu]
  rw [if_neg (by simp)]
  rfl
theorem int_at (l r : List UInt8) (k : Nat) (n lo hi : Int) (h1 : -9223372036854775808 ≤ n) (h2 : n ≤ 9223372036854775807) (h : l.drop k = Vi.put (Vi.zz n) ++ r) : Vi.int l (fine k) lo hi = if n < lo ∨ hi < n then (0, bad k 105) else (n, fine (k + Vi.size (Vi.zz n))) := by
  unfold Vi.int Vi.peekI
  rw [if_neg (by simp [fine])]
  simp only [fine, h, get_of_put (Vi.zz n) r (Vi.zz_lt n h1 h2), Vi.unzz_zz]
  rw [if_neg (by simp)]
  by_cases hc : n < lo ∨ hi < n
  · rw [if_pos hc, if_pos hc]; rfl
  · rw [if_neg hc, if_neg hc]; rfl
theorem ErrIs.ends {w : World} {p : Nat → Addr} {g : Nat} {E : Value} {s : Vi.Rs} (h : ErrIs w p g E s) (hc : s.code = 101) : E = errV (p 0) := by
  rcases h with ⟨h, _⟩ | ⟨_, _, h⟩ | ⟨a, q, h, _⟩
  · omega
  · exact h
  · omega
end Go.Proofs.YtcmgppacipdnaaaGreatDoor

namespace Go.Proofs.YtcmgppacipdnaaaGreatDoor
open Go.RowKit

def eT (q : Part) : List UInt8 := Vi.put q.l.length ++ q.l

theorem text_at (l b r : List UInt8) (k most : Nat) (hu : b.length < 18446744073709551616) (h : l.drop k = Vi.put b.length ++ (b ++ r)) (hm : b.length ≤ most) : Vi.text l (fine k) most = (b, fine (k + (Vi.size b.length + b.length))) := by
  have hl : l.length - k = Vi.size b.length + (b.length + r.length) := by
    have := congrArg List.length h
    rw [List.length_drop, List.length_append, List.length_append] at this
    exact this
  have hs := Vi.size_pos b.length
  unfold Vi.text
  simp only [peek_at l (b ++ r) k b.length most hu h, if_neg (show ¬ most < b.length by omega)]
  rw [if_neg (by simp [fine]), if_neg (by simp only [fine]; omega)]
  have hd : l.drop (k + Vi.size b.length) = b ++ r := by rw [← List.drop_drop, h]; exact drop_pad _ _ _ rfl
  simp only [fine] at hd ⊢
  rw [hd]
  simp [Vi.Rs.on]
end Go.Proofs.YtcmgppacipdnaaaGreatDoor

namespace Go.Proofs.YtcmgppacipdnaaaGreatDoor
namespace Vi
theorem fail_code (s : Rs) (c : Nat) : (s.fail c).code = c := by unfold Rs.fail; split <;> simp_all
end Vi
end Go.Proofs.YtcmgppacipdnaaaGreatDoor
