/-
  The walk through package vint's Get.
  The walk through package vint's GetInt.
  Get and GetInt as the walks ask them; what they answer of what Put laid.
  A reader in memory: its three cells, its bytes, its error. The walk through its fail.
  What a plain reader reads of a number or a text laid there; its error at the end.
  Numbers and texts laid one behind the other, plainly; what a plain reader reads there.
  What a reader reads of bytes is what is written as just these bytes: numbers, plainly. Nothing of any program is named here.
  The walks through a reader's next number.
  The walks through a reader's next number that may be below nothing.
  The walks through a reader's own small calls: Num, Int, At, Left, Err.
  The walks through bytes.Clone, NewReader, and a reader's Bytes and Fixed.
-/
import Derived.Test.YtplpakdbahlgaaaDoorE9
import Derived.Test.YtplpakdbahlgaaaDoorE1
import Derived.Deep.CutBlock
import Derived.Deep.DeepCutAuto
import Derived.BigQuiet
import Derived.Deep.QuietTactic
import Derived.IntWalk
import Derived.Lib.SliceRun
namespace Go.Proofs.YtplpakdbahlgaaaDoor
open Go.RowKit

theorem ret3 {a b c a' b' c' : Value} (h1 : a = a') (h2 : b = b') (h3 : c = c') : Ending.returned (.tuple #[a, b, c]) = Ending.returned (.tuple #[a', b', c']) := by rw [h1, h2, h3]
theorem drewN_two (w : World) (a b : Nat) : ∃ n, (w.drewN a).drewN b = w.drewN n := ⟨a + b, by rw [World.drewN_drewN]⟩
/-- The error of a number. -/
def errOf (p : Nat → Addr) (c : Nat) : Value := if c = 0 then .nilIface else errV (p (c - 101))

theorem andNot128 (x : UInt8) : bits .andNot .u8 (B x) 128 = ((x.toNat % 128 : Nat) : Int) := by
  unfold B
  rw [show (128 : Int) = ((128 : Nat) : Int) from rfl, u8_andNot_nat _ _ x.toNat_lt (by omega)]
  congr 1
  exact Nat.and_two_pow_sub_one_eq_mod x.toNat 7
theorem or64 (n x i : Nat) (hn : n < 2 ^ (7 * i)) (hn2 : n < 18446744073709551616) (h : x * 2 ^ (7 * i) < 18446744073709551616) : bits .or .u64 (n : Int) (IntKind.u64.wrap ((x : Int) * 2 ^ (7 * i))) = ((n + x * 2 ^ (7 * i) : Nat) : Int) := by
  have e : IntKind.u64.wrap ((x : Int) * 2 ^ (7 * i)) = ((x * 2 ^ (7 * i) : Nat) : Int) := by
    have : ((x : Int) * 2 ^ (7 * i)) = ((x * 2 ^ (7 * i) : Nat) : Int) := by simp
    rw [IntKind.wrap_u64, this]; omega
  rw [e, u64_or_nat _ _ hn2 h, Nat.or_comm, nat_join (7 * i) _ _ (Nat.mul_mod_left _ _) hn, Nat.add_comm]
theorem pow63 (k : Nat) (h : k ≤ 9) : 2 ^ (7 * k) ≤ 9223372036854775808 := Nat.le_trans (Nat.pow_le_pow_right (by omega) (show 7 * k ≤ 63 by omega)) (by decide)
theorem pow56 (k : Nat) (h : k ≤ 8) : 2 ^ (7 * k) ≤ 72057594037927936 := Nat.le_trans (Nat.pow_le_pow_right (by omega) (show 7 * k ≤ 56 by omega)) (by decide)
theorem or_at (acc x k : Nat) (hk : k ≤ 9) (hacc : acc < 2 ^ (7 * k)) (hx : x < 128) (h : k ≤ 8 ∨ x ≤ 1) : bits .or .u64 (acc : Int) (IntKind.u64.wrap ((x : Int) * 2 ^ (7 * k))) = ((acc + x * 2 ^ (7 * k) : Nat) : Int) := by
  have h9 := pow63 k hk
  refine or64 acc x k hacc (by omega) ?_
  rcases h with h | h
  · have h1 := pow56 k h
    have : x * 2 ^ (7 * k) ≤ 127 * 72057594037927936 := Nat.mul_le_mul (by omega) h1
    omega
  · have : x * 2 ^ (7 * k) ≤ 1 * 9223372036854775808 := Nat.mul_le_mul h h9
    omega
theorem acc_next (acc x k : Nat) (hacc : acc < 2 ^ (7 * k)) (hx : x < 128) : acc + x * 2 ^ (7 * k) < 2 ^ (7 * (k + 1)) := by
  rw [Vi.pow7]
  have : x * 2 ^ (7 * k) ≤ 127 * 2 ^ (7 * k) := Nat.mul_le_mul_right _ (by omega)
  omega

set_option maxRecDepth 100000 in
set_option maxHeartbeats 1000000 in
theorem get_any (A : Option Addr) (cap : Nat) (l : List UInt8) (w : World) (p : Nat → Addr) (hl : l.length ≤ 1000000) (hc : l.length ≤ cap) (hr : Reads w A l) (hs : SentsV w p) :
    Calls Tryd.prog 72 #[.slice A l.length cap] w fun e w' => e = .returned (.tuple #[.int .u64 (Vi.get 0 0 l).1, .int .i64 (Vi.get 0 0 l).2.1, errOf p (Vi.get 0 0 l).2.2]) ∧ ∃ n, w' = w.drewN n := by
  have HR := hide hr
  have k1 := fun W q h => run_cut_h W A l.length cap q h
  have K1 := hide k1
  have c1 : w.cell? ⟨4, 0, none⟩ = some (.iface 123 (.pointer (some (p 0)))) := hs.cell 0 (by omega)
  have c2 : w.cell? ⟨2, 0, none⟩ = some (.iface 123 (.pointer (some (p 2)))) := hs.cell 2 (by omega)
  have C1 := hide c1
  have C2 := hide c2
  clear hr hs k1 c1 c2
  go_enter Tryd.func72, Tryd.ntmps72
  go_upto_region 2 with fail
  obtain ⟨m, hm⟩ : ∃ m, m = min l.length 10 := ⟨_, rfl⟩
  have k2 := fun W => K1.out W m (by omega)
  go_cut [12, 13, 14] (fun s n i wx => s = .slice A m cap ∧ n = .int .i64 m ∧ i = .int .i64 0 ∧ w = wx)
  case first =>
    go_wp2_with fail
    · go_meet
      obtain rfl : m = 10 := by omega
      exact ⟨rfl, rfl, rfl, rfl⟩
    · go_meet
      obtain rfl : m = l.length := by omega
      exact ⟨rfl, rfl, rfl, rfl⟩
  case rest =>
    obtain ⟨rfl, rfl, rfl, rfl⟩ := hcut
    have hm1 : m ≤ 10 := by omega
    have hm2 : m ≤ l.length := by omega
    have HM := hide hm
    clear hm k2
    go_wp2_with fail
    go_loopw [5, 14] (fun n i wr => ∃ (k : Nat) (v : Int) (acc : Nat), k ≤ m ∧ i = .int .i64 k ∧ n = .int .u64 v ∧ (k ≤ 9 → v = acc) ∧ acc < 2 ^ (7 * k) ∧ Vi.get k acc (l.drop k) = Vi.get 0 0 l ∧ ∃ q, wr = w.drewN q) (fun _ i _ => m - (intOf i).toNat)
    case atStart => exact ⟨0, 0, 0, Nat.zero_le _, rfl, rfl, fun _ => rfl, by omega, rfl, 0, rfl⟩
    case round =>
      obtain ⟨k, v, acc, hk, rfl, rfl, hv, hacc, hg, q, rfl⟩ := hrel
      by_cases hlt : k < m
      · have hv9 := hv (by omega)
        subst hv9
        have hkl : k < l.length := by omega
        rcases HR.out with rfl | ⟨b, off, rfl, hb, hcl⟩
        · simp at hkl
        have hcell := hcl k hkl
        have hd : l.drop k = l.getD k 0 :: l.drop (k + 1) := by
          rw [List.drop_eq_getElem_cons hkl]; simp [List.getD, hkl]
        rw [hd, Vi.get, if_neg (by omega)] at hg
        clear hcl hd hv
        generalize l.getD k 0 = c at *
        have ha := andNot128 c
        have hb1 := B_lo c
        have hb2 := B_hi c
        have hcB : B c = (c.toNat : Int) := rfl
        have HCB := hide hcB
        have hx : c.toNat % 128 < 128 := by omega
        by_cases h128 : 128 ≤ c.toNat
        · rw [if_pos h128] at hg
          have hB : 128 ≤ B c := by rw [hcB]; omega
          have HG := hide hg
          have HACC := hide (acc_next acc (c.toNat % 128) k hacc hx)
          have HOR := hide (fun h8 : k ≤ 8 => or_at acc (c.toNat % 128) k (by omega) hacc hx (.inl h8))
          clear hg hcB hacc
          generalize c.toNat % 128 = x at *
          go_wp2_with fail
          exact ⟨⟨k + 1, _, acc + x * 2 ^ (7 * k), by omega, by go_num, rfl, fun h9 => HOR.out (by omega), HACC.out, HG.out, _, rfl⟩, by simp [intOf]; omega⟩
        · rw [if_neg h128] at hg
          have hB : B c < 128 := by rw [hcB]; omega
          have hxc : c.toNat % 128 = c.toNat := by omega
          have HX := hide hxc
          have HOR := hide (fun h8 => or_at acc (c.toNat % 128) k (by omega) hacc hx h8)
          clear hacc hxc
          generalize c.toNat % 128 = x at *
          by_cases hs : (c.toNat = 0 ∧ 0 < k) ∨ (1 < c.toNat ∧ k = 9)
          · rw [if_pos hs] at hg
            have HG := hide hg
            have c2 := C2.out
            rcases hs with ⟨h1, h2⟩ | ⟨h1, h2⟩
            · have hz : (B c == 0) = true := by rw [hcB, h1]; rfl
              clear hg hcB h1 h128
              go_wp2_with fail
              go_quiet (fail)
              go_wp2_with fail
              go_ret3
              exact ⟨by rw [← HG.out]; rfl, drewN_two _ _ _⟩
            · have hz : (B c == 0) = false := by rw [beq_eq_false_iff_ne, hcB]; omega
              have h19 : 1 < B c := by rw [hcB]; omega
              have hk9 : ((k : Int) == 9) = true := by rw [h2]; rfl
              clear hg hcB h1 h2 h128
              go_wp2_with fail
              go_quiet (fail)
              go_wp2_with fail
              go_ret3
              exact ⟨by rw [← HG.out]; rfl, drewN_two _ _ _⟩
          · rw [if_neg hs] at hg
            have HG := hide hg
            have HOR8 := hide ((HOR.out (by have := HX.out; omega)).trans (show _ = ((acc + c.toNat * 2 ^ (7 * k) : Nat) : Int) by rw [HX.out]))
            by_cases h0 : c.toNat = 0
            · have hz : (B c == 0) = true := by rw [hcB, h0]; rfl
              have hk0 : k ≤ 0 := by omega
              have hcB0 : B c ≤ 1 := by rw [hcB]; omega
              clear hg hcB h0 h128 hs
              go_wp2_with fail
              go_ret3
              exact ⟨by rw [← HG.out]; exact ret3 (congrArg (Value.int .u64) HOR8.out) rfl rfl, q, rfl⟩
            · have hz : (B c == 0) = false := by rw [beq_eq_false_iff_ne, hcB]; omega
              by_cases h1 : 1 < c.toNat
              · have h19 : 1 < B c := by rw [hcB]; omega
                have hk9 : ((k : Int) == 9) = false := by rw [beq_eq_false_iff_ne]; omega
                clear hg hcB h0 h1 h128 hs
                go_wp2_with fail
                go_ret3
                exact ⟨by rw [← HG.out]; exact ret3 (congrArg (Value.int .u64) HOR8.out) rfl rfl, q, rfl⟩
              · have h19 : B c ≤ 1 := by rw [hcB]; omega
                clear hg hcB h0 h1 h128 hs
                go_wp2_with fail
                go_ret3
                exact ⟨by rw [← HG.out]; exact ret3 (congrArg (Value.int .u64) HOR8.out) rfl rfl, q, rfl⟩
      · obtain rfl : k = m := by omega
        have HG := hide hg
        have HMM := hide (HM.out)
        have c1 := C1.out
        have c2 := C2.out
        by_cases h10 : l.length < 10
        · obtain rfl : k = l.length := by have := HM.out; omega
          clear hg hv hacc
          go_wp2_with fail
          go_quiet (fail)
          go_wp2_with fail
          go_ret3
          exact ⟨by rw [← HG.out, List.drop_of_length_le (Nat.le_refl _), Vi.get, if_pos h10]; rfl, drewN_two _ _ _⟩
        · obtain rfl : k = 10 := by have := HM.out; omega
          clear hg hv hacc
          go_wp2_with fail
          go_quiet (fail)
          go_wp2_with fail
          go_ret3
          have hsh : Vi.get 10 acc (l.drop 10) = (0, 0, 103) := by
            cases l.drop 10 with
            | nil => rfl
            | cons c r => rw [Vi.get, if_pos (by omega)]
          exact ⟨by rw [← HG.out, hsh]; rfl, drewN_two _ _ _⟩
end Go.Proofs.YtplpakdbahlgaaaDoor

namespace Go.Proofs.YtplpakdbahlgaaaDoor
open Go.RowKit

theorem xor_i64_nil (a : Nat) (ha : a < 9223372036854775808) : bits .xor .i64 (a : Int) 0 = (a : Int) := by
  show IntKind.i64.wrap ((BitVec.ofInt 64 (a : Int) ^^^ BitVec.ofInt 64 (0 : Int)).toNat : Int) = _
  rw [BitVec.toNat_xor, ofInt_i64 a ha, show (BitVec.ofInt 64 (0 : Int)).toNat = 0 from by decide, Nat.xor_zero, IntKind.wrap_i64]
  omega
theorem xor_i64_all (a : Nat) (ha : a < 9223372036854775808) : bits .xor .i64 (a : Int) (-1) = -(a : Int) - 1 := by
  show IntKind.i64.wrap ((BitVec.ofInt 64 (a : Int) ^^^ BitVec.ofInt 64 (-1 : Int)).toNat : Int) = _
  rw [BitVec.toNat_xor, ofInt_i64 a ha, show (BitVec.ofInt 64 (-1 : Int)).toNat = 18446744073709551615 from by decide]
  have h := ofInt_all a (by omega)
  rw [show (18446744073709551615 : Int) = ((18446744073709551615 : Nat) : Int) from rfl, u64_xor_nat _ _ (by omega) (by omega)] at h
  rw [h, IntKind.wrap_i64]
  omega
theorem and1_u64 (a : Nat) (ha : a < 18446744073709551616) : bits .and .u64 (a : Int) 1 = ((a % 2 : Nat) : Int) := by
  rw [show (1 : Int) = ((1 : Nat) : Int) from rfl, u64_and_nat _ _ ha (by omega), nat_mask1]

end Go.Proofs.YtplpakdbahlgaaaDoor

namespace Go.Proofs.YtplpakdbahlgaaaDoor
open Go.RowKit

theorem get_at (A : Option Addr) (cap n : Nat) (l : List UInt8) (w : World) (p : Nat → Addr) (a k c : Nat) (hn : l.length = n) (hg : Vi.get 0 0 l = (a, k, c)) (hl : n ≤ 1000000) (ha : Arg w A cap l) (hs : SentsV w p) :
    Calls Tryd.prog 72 #[.slice A n cap] w fun e w' => e = .returned (.tuple #[.int .u64 a, .int .i64 k, errOf p c]) ∧ ∃ n, w' = w.drewN n := by
  subst hn
  have h := get_any A cap l w p hl ha.le ha.reads hs
  rw [hg] at h; exact h
theorem get_of_put (u : Nat) (r : List UInt8) (hu : u < 18446744073709551616) : Vi.get 0 0 (Vi.put u ++ r) = (u, Vi.size u, 0) := by
  have h := Vi.get_put u 0 0 r (fun h => absurd h (Nat.lt_irrefl 0)) (by simpa using hu)
  simpa using h
theorem get_of_cut (u : Nat) (hu : u < 18446744073709551616) : Vi.get 0 0 ((Vi.put u).take (Vi.size u - 1)) = (0, 0, 101) := by
  have h := Vi.get_cut u 0 0 (by have := Vi.size_le10 hu; omega)
  rwa [List.dropLast_eq_take] at h
end Go.Proofs.YtplpakdbahlgaaaDoor

namespace Go.Proofs.YtplpakdbahlgaaaDoor
open Go.RowKit

/-- An error with its place. -/
def atV (h : Nat) : Value := .iface 92 (.pointer (some ⟨h, 0, none⟩))
/-- What a reader's error is, by the plain reader's word. -/
def ErrIs (w : World) (p : Nat → Addr) (g : Nat) (E : Value) (s : Vi.Rs) : Prop :=
  (s.code = 0 ∧ s.pos = none ∧ E = .nilIface) ∨ (s.code = 101 ∧ s.pos = none ∧ E = errV (p 0)) ∨
  ∃ h q, (s.code = 103 ∨ s.code = 105) ∧ s.pos = some q ∧ E = atV h ∧ h ≠ g ∧ h < w.heap.size ∧ w.cell? ⟨h, 0, none⟩ = some (.int .i64 q) ∧ w.cell? ⟨h, 1, none⟩ = some (errV (p (s.code - 101)))

/-- The reader of l at block g, in the state s. -/
structure Rdr (w : World) (p : Nat → Addr) (g : Nat) (l : List UInt8) (s : Vi.Rs) : Prop where
  lt : g < w.heap.size
  free : ∀ k, w.frozen? ⟨g, k, none⟩ = false
  ok : Vi.Ok l s
  ex : ∃ A cap E, w.cell? ⟨g, 0, none⟩ = some (.slice A l.length cap) ∧ w.cell? ⟨g, 1, none⟩ = some (.int .i64 s.at_) ∧ w.cell? ⟨g, 2, none⟩ = some E ∧ Arg w A cap l ∧ (∀ b off, A = some ⟨b, off, none⟩ → b ≠ g) ∧ ErrIs w p g E s

/-- Only block g has been turned, beside new ones; not its first cell. -/
structure But (g : Nat) (w w' : World) : Prop where
  grown : w.grownBy w' (some g)
  first : g < w.heap.size → w'.cell? ⟨g, 0, none⟩ = w.cell? ⟨g, 0, none⟩
theorem But.size {g : Nat} {w w' : World} (h : But g w w') : w.heap.size ≤ w'.heap.size := h.grown.size
theorem But.block {g : Nat} {w w' : World} (h : But g w w') : ∀ k, k < w.heap.size → some k ≠ some g → w'.heap[k]? = w.heap[k]? := h.grown.block
theorem But.refl (g : Nat) (w : World) : But g w w := ⟨World.grownBy.refl w _, fun _ => rfl⟩
theorem But.trans {g : Nat} {a b c : World} (h : But g a b) (k : But g b c) : But g a c := ⟨World.grownBy.trans h.grown k.grown, fun hg => (k.first (Nat.lt_of_lt_of_le hg h.size)).trans (h.first hg)⟩
theorem But.of_below {g : Nat} {w w' : World} (h : Below w.heap.size w w') : But g w w' := ⟨⟨h.os, h.tape, h.output, h.size, fun k hk _ => h.block k hk⟩, fun hg => h.cell (p := ⟨g, 0, none⟩) hg⟩
theorem But.drewN (g : Nat) (w : World) (n : Nat) : But g w (w.drewN n) := But.of_below (below_drewN (Below.refl _ _) n)
theorem But.setCell (g k : Nat) (w : World) (v : Value) (hk : k ≠ 0 := by omega) : But g w (w.setCell ⟨g, k, none⟩ v) :=
  ⟨⟨rfl, rfl, rfl, by simp [World.setCell], fun i hi hne => Below.heap_setCell _ _ _ _ (by intro e; exact hne (by rw [e]))⟩, fun _ => World.cell?_setCell_other _ _ _ _ (by simp)⟩
theorem But.cell {g : Nat} {w w' : World} (h : But g w w') {b o : Nat} (hb : b < w.heap.size) (hne : b ≠ g) : w'.cell? ⟨b, o, none⟩ = w.cell? ⟨b, o, none⟩ := by
  have := h.block b hb (by simp [hne])
  simp [World.cell?, this]
theorem But.frozen {g : Nat} {w w' : World} (h : But g w w') {b o : Nat} (hb : b < w.heap.size) (hne : b ≠ g) : w'.frozen? ⟨b, o, none⟩ = w.frozen? ⟨b, o, none⟩ := by
  have := h.block b hb (by simp [hne])
  simp [World.frozen?, this]
theorem Reads.but {g : Nat} {w w' : World} {A : Option Addr} {l : List UInt8} (h : Reads w A l) (hb : But g w w') (hne : ∀ b off, A = some ⟨b, off, none⟩ → b ≠ g) : Reads w' A l := by
  rcases h with h | ⟨b, off, e, hlt, hc⟩
  · exact .inl h
  · exact .inr ⟨b, off, e, Nat.lt_of_lt_of_le hlt hb.size, fun k hk => (hb.cell hlt (hne b off e)).trans (hc k hk)⟩
theorem Arg.but {g : Nat} {w w' : World} {A : Option Addr} {cap : Nat} {l : List UInt8} (h : Arg w A cap l) (hb : But g w w') (hne : ∀ b off, A = some ⟨b, off, none⟩ → b ≠ g) : Arg w' A cap l := ⟨h.le, h.max, h.nil, h.reads.but hb hne⟩
theorem SentsOn.but {S : Nat → Prop} {g : Nat} {w w' : World} {p : Nat → Addr} (h : SentsOn S w p) (hb : But g w w') (hg : ∀ j, S j → gs.getD j 0 ≠ g) (hp : ∀ j, S j → (p j).block ≠ g) : SentsOn S w' p :=
  ⟨fun j hj => (hb.cell (h.size j hj) (hg j hj)).trans (h.cell j hj), fun j hj => by
    obtain ⟨h1, c, t, h2⟩ := h.blk j hj
    exact ⟨Nat.lt_of_lt_of_le h1 hb.size, c, t, (hb.block _ h1 (by simp; exact hp j hj)).trans h2⟩, h.ne⟩
theorem ErrIs.but {g : Nat} {w w' : World} {p : Nat → Addr} {E : Value} {s : Vi.Rs} (h : ErrIs w p g E s) (hb : But g w w') : ErrIs w' p g E s := by
  rcases h with h | h | ⟨a, q, h1, h2, h3, h4, h5, h6, h7⟩
  · exact .inl h
  · exact .inr (.inl h)
  · exact .inr (.inr ⟨a, q, h1, h2, h3, h4, Nat.lt_of_lt_of_le h5 hb.size, (hb.cell h5 h4).trans h6, (hb.cell h5 h4).trans h7⟩)
/-- A reader stays where its own block stays. -/
theorem Rdr.below {w w' : World} {p : Nat → Addr} {g : Nat} {l : List UInt8} {s : Vi.Rs} (h : Rdr w p g l s) (hb : Below w.heap.size w w') : Rdr w' p g l s := by
  obtain ⟨A, cap, E, h0, h1, h2, ha, hne, he⟩ := h.ex
  refine ⟨Nat.lt_of_lt_of_le h.lt hb.size, fun k => (hb.frozen (p := ⟨g, k, none⟩) h.lt).trans (h.free k), h.ok, A, cap, E, (hb.cell (p := ⟨g, 0, none⟩) h.lt).trans h0, (hb.cell (p := ⟨g, 1, none⟩) h.lt).trans h1, (hb.cell (p := ⟨g, 2, none⟩) h.lt).trans h2, ha.below hb (Nat.le_refl _), hne, ?_⟩
  exact he.but (But.of_below hb)
theorem Rdr.at_set {w : World} {p : Nat → Addr} {g : Nat} {l : List UInt8} {s : Vi.Rs} (h : Rdr w p g l s) (k : Nat) (hk : s.at_ + k ≤ l.length) (hz : s.code ≠ 0 → k = 0) : Rdr (w.setCell ⟨g, 1, none⟩ (.int .i64 ((s.at_ + k : Nat) : Int))) p g l (s.on k) := by
  obtain ⟨A, cap, E, h0, h1, h2, ha, hne, he⟩ := h.ex
  have hb : But g w (w.setCell ⟨g, 1, none⟩ (.int .i64 ((s.at_ + k : Nat) : Int))) := But.setCell _ _ _ _
  refine ⟨Nat.lt_of_lt_of_le h.lt hb.size, fun j => (World.frozen?_setCell _ _ _ _).trans (h.free j), ⟨hk, ?_⟩, A, cap, E, ?_, World.cell?_setCell_same _ _ _ h1, ?_, ha.but hb hne, hne, ?_⟩
  · rcases h.ok.code with h | h | ⟨h, h'⟩
    · exact .inl h
    · exact .inr (.inl h)
    · refine .inr (.inr ⟨h, ?_⟩)
      have : k = 0 := hz (by omega)
      subst this; exact h'
  · rw [World.cell?_setCell_other _ _ _ _ (by simp)]; exact h0
  · rw [World.cell?_setCell_other _ _ _ _ (by simp)]; exact h2
  · exact he.but hb
theorem Rdr.err_set {w : World} {p : Nat → Addr} {g : Nat} {l : List UInt8} {s s' : Vi.Rs} {E : Value} (h : Rdr w p g l s) (hok : Vi.Ok l s') (hat : s'.at_ = s.at_) (he : ErrIs w p g E s') : Rdr (w.setCell ⟨g, 2, none⟩ E) p g l s' := by
  obtain ⟨A, cap, E', h0, h1, h2, ha, hne, _⟩ := h.ex
  have hb : But g w (w.setCell ⟨g, 2, none⟩ E) := But.setCell _ _ _ _
  refine ⟨Nat.lt_of_lt_of_le h.lt hb.size, fun j => (World.frozen?_setCell _ _ _ _).trans (h.free j), hok, A, cap, E, ?_, ?_, World.cell?_setCell_same _ _ _ h2, ha.but hb hne, hne, he.but hb⟩
  · rw [World.cell?_setCell_other _ _ _ _ (by simp)]; exact h0
  · rw [World.cell?_setCell_other _ _ _ _ (by simp), hat]; exact h1

theorem neq_same (a : Addr) (w : World) : (binOp .neq 27 (errV a) (errV a)).run Tryd.prog w = .ok (.bool false) w := by
  obtain ⟨ms, i, j, h1, h2, h3, h4, h5⟩ := es_facts
  unfold errV
  simp only [binOp]
  simp [Op.equal, Op.maxDepth, run_equalIn_iface_ptr_same w 9998 a h1 es_pointee h2 h3 h4]
theorem neq_other (a b : Addr) (w : World) (hne : a ≠ b) (ha : ∃ c t, w.heap[a.block]? = some (.cells c t (0, 0))) (hb : ∃ c t, w.heap[b.block]? = some (.cells c t (0, 0))) : (binOp .neq 27 (errV a) (errV b)).run Tryd.prog w = .ok (.bool true) w := by
  obtain ⟨ms, i, j, h1, h2, h3, h4, h5⟩ := es_facts
  obtain ⟨c, t, hc⟩ := ha
  obtain ⟨c', t', hc'⟩ := hb
  unfold errV
  simp only [binOp]
  simp [Op.equal, Op.maxDepth, run_equalIn_iface_ptr_other w 9998 h1 es_pointee h2 h3 h4 h5 hne hc hc']
theorem iface_nil (u : TypeId) (x : Value) (w : World) (d : Nat) : (Op.equalIn (d + 1) 27 (.iface u x) .nilIface).run Tryd.prog w = .ok false w := by
  obtain ⟨ms, i, j, h1, h2, h3, h4, h5⟩ := es_facts
  simp [Op.equalIn, run_underlying h1]
theorem neq_nil (u : TypeId) (x : Value) (w : World) : (binOp .neq 27 (.iface u x) .nilIface).run Tryd.prog w = .ok (.bool true) w := by
  simp only [binOp]
  simp [Op.equal, Op.maxDepth, iface_nil u x w 9999]
theorem eqn_nil (u : TypeId) (x : Value) (w : World) : (binOp .eql 27 (.iface u x) .nilIface).run Tryd.prog w = .ok (.bool false) w := by
  simp only [binOp]
  simp [Op.equal, Op.maxDepth, iface_nil u x w 9999]

set_option maxRecDepth 100000 in
/-- fail by the end of the bytes. -/
theorem fail_end (w : World) (p : Nat → Addr) (g : Nat) (l : List UInt8) (s : Vi.Rs) (h : Rdr w p g l s) (hs : SentsV w p) :
    Calls Tryd.prog 78 #[.pointer (some ⟨g, 0, none⟩), errV (p 0)] w fun e w' => e = .returned (.tuple #[]) ∧ Rdr w' p g l (s.fail 101) ∧ But g w w' := by
  have hset := h.err_set (h.ok.fail (c := 101) (.inl rfl)) rfl (E := errV (p 0)) (.inr (.inl ⟨rfl, rfl, rfl⟩))
  have HSET := hide hset
  obtain ⟨A, cap, E, h0, h1, h2, _⟩ := h.ex
  have hfr := h.free 2
  have hlt := h.lt
  have c0 := hs.cell 0 (by omega)
  have k1 := neq_same (p 0)
  clear h hs hset
  change w.cell? ⟨4, 0, none⟩ = some (errV (p 0)) at c0
  unfold errV at *
  go_enter Tryd.func78, Tryd.ntmps78
  go_wp2_with fail
  go_end0
  exact ⟨rfl, HSET.out, But.setCell _ _ _ _⟩

set_option maxRecDepth 100000 in
/-- fail by another error: with its place. -/
theorem fail_at (w : World) (p : Nat → Addr) (g : Nat) (l : List UInt8) (s : Vi.Rs) (k : Nat) (hk : k = 2 ∨ k = 4) (h : Rdr w p g l s) (hs : SentsV w p) :
    Calls Tryd.prog 78 #[.pointer (some ⟨g, 0, none⟩), errV (p k)] w fun e w' => e = .returned (.tuple #[]) ∧ Rdr w' p g l (s.fail (101 + k)) ∧ But g w w' := by
  have hk19 : k = 0 ∨ k = 2 ∨ k = 4 := by omega
  have hb0 : Below w.heap.size w (w.alloc (.cells #[.int .i64 s.at_, errV (p k)] 94)) := balloc (Below.refl _ _) _
  have hset := (h.below hb0).err_set (s' := s.fail (101 + k)) (h.ok.fail (c := 101 + k) (by omega)) (by unfold Vi.Rs.fail; split <;> rfl) (E := atV w.heap.size) (.inr (.inr ⟨w.heap.size, s.at_, by unfold Vi.Rs.fail; rw [if_neg (by omega)]; show 101 + k = 103 ∨ 101 + k = 105; omega, by unfold Vi.Rs.fail; rw [if_neg (by omega)], rfl, by have := h.lt; omega, by simp, by simp, by
    unfold Vi.Rs.fail; rw [if_neg (by omega)]
    simp [Nat.add_sub_cancel_left]⟩))
  have hbut := (But.of_below (g := g) hb0).trans (But.setCell g 2 _ (atV w.heap.size))
  have HSET := hide hset
  have HBUT := hide hbut
  obtain ⟨A, cap, E, h0, h1, h2, _⟩ := h.ex
  have hfr := h.free 2
  have hlt := h.lt
  have c0 := hs.cell 0 (by omega)
  have k1 := neq_other (p k) (p 0) w (hs.ne k 0 hk19 (by omega) (by omega)) (hs.blk k hk19).2 (hs.blk 0 (by omega)).2
  clear h hs hset hbut hb0
  change w.cell? ⟨4, 0, none⟩ = some (errV (p 0)) at c0
  unfold errV at *
  unfold atV at *
  go_enter Tryd.func78, Tryd.ntmps78
  go_wp2_with fail
  go_end0
  have e := World.setCell_alloc_past (w := w) (.cells #[.int .i64 s.at_, .iface 123 (.pointer (some (p k)))] 94) g 2 (.iface 92 (.pointer (some ⟨w.heap.size, 0, none⟩))) hlt
  rw [← e]
  exact ⟨rfl, HSET.out, HBUT.out⟩
end Go.Proofs.YtplpakdbahlgaaaDoor

namespace Go.Proofs.YtplpakdbahlgaaaDoor
open Go.RowKit

/-- A reader that has met nothing amiss. -/
def fine (k : Nat) : Vi.Rs := ⟨k, 0, none⟩
def bad (k c : Nat) : Vi.Rs := ⟨k, c, some k⟩
theorem drop_pad (a b : List UInt8) (n : Nat) (h : a.length = n) : (a ++ b).drop n = b := by subst h; simp
theorem peek_at (l r : List UInt8) (k u most : Nat) (hu : u < 18446744073709551616) (h : l.drop k = Vi.put u ++ r) : Vi.peek l (fine k) most = if most < u then (0, 0, bad k 105) else (u, Vi.size u, fine k) := by
  unfold Vi.peek
  rw [if_neg (by simp [fine])]
  simp only [fine, h, get_of_put u r hu]
  rw [if_neg (by simp)]
  rfl
theorem num_at_hi (l r : List UInt8) (k u most : Nat) (hu : u < 18446744073709551616) (h : l.drop k = Vi.put u ++ r) (hm : most < u) : Vi.num l (fine k) most = (0, bad k 105) := by
  unfold Vi.num; rw [peek_at l r k u most hu h, if_pos hm]; rfl
theorem num_at_lo (l r : List UInt8) (k u most : Nat) (hu : u < 18446744073709551616) (h : l.drop k = Vi.put u ++ r) (hm : u ≤ most) : Vi.num l (fine k) most = (u, fine (k + Vi.size u)) := by
  unfold Vi.num; rw [peek_at l r k u most hu h, if_neg (by omega)]; rfl
theorem int_at (l r : List UInt8) (k : Nat) (n lo hi : Int) (h1 : -9223372036854775808 ≤ n) (h2 : n ≤ 9223372036854775807) (h : l.drop k = Vi.put (Vi.zz n) ++ r) : Vi.int l (fine k) lo hi = if n < lo ∨ hi < n then (0, bad k 105) else (n, fine (k + Vi.size (Vi.zz n))) := by
  unfold Vi.int Vi.peekI
  rw [if_neg (by simp [fine])]
  simp only [fine, h, get_of_put (Vi.zz n) r (Vi.zz_lt n h1 h2), Vi.unzz_zz]
  rw [if_neg (by simp)]
  by_cases hc : n < lo ∨ hi < n
  · rw [if_pos hc, if_pos hc]; rfl
  · rw [if_neg hc, if_neg hc]; rfl
theorem int_bad (l : List UInt8) (k c : Nat) (hc : c ≠ 0) (lo hi : Int) : Vi.int l (bad k c) lo hi = (0, bad k c) := by
  unfold Vi.int Vi.peekI
  rw [if_pos (by simpa [bad] using hc)]; rfl
theorem fixed_one (l : List UInt8) (k : Nat) (h : k < l.length) : (Vi.fixed l (fine k) 1).2 = fine (k + 1) := by
  unfold Vi.fixed
  rw [if_neg (by simp [fine]), if_neg (by simp only [fine]; omega)]; rfl
theorem text_hi (l r : List UInt8) (u most : Nat) (hu : u < 18446744073709551616) (h : l = Vi.put u ++ r) (hm : most < u) : Vi.text l (fine 0) most = ([], bad 0 105) := by
  unfold Vi.text
  simp only [peek_at l r 0 u most hu (by simpa using h), if_pos hm]
  rw [if_pos (by simp [bad])]
theorem text_lo (l b r : List UInt8) (most : Nat) (hu : b.length < 18446744073709551616) (h : l = Vi.put b.length ++ (b ++ r)) (hm : b.length ≤ most) : Vi.text l (fine 0) most = (b, fine (Vi.size b.length + b.length)) := by
  unfold Vi.text
  simp only [peek_at l (b ++ r) 0 b.length most hu (by simpa using h), if_neg (show ¬ most < b.length by omega)]
  have hl : l.length = Vi.size b.length + (b.length + r.length) := by rw [h, List.length_append, List.length_append]; rfl
  rw [if_neg (by simp [fine]), if_neg (by simp only [fine]; omega)]
  have hd : l.drop (0 + Vi.size b.length) = b ++ r := by rw [h, Nat.zero_add]; exact drop_pad _ _ _ rfl
  simp only [fine] at hd ⊢
  rw [hd]
  simp [Vi.Rs.on]
theorem text_cut (l b : List UInt8) (k most : Nat) (hu : b.length < 18446744073709551616) (hl : l = (Vi.put b.length ++ b).take k) (hk : k < Vi.size b.length + b.length) (hm : b.length ≤ most) : Vi.text l (fine 0) most = ([], ⟨0, 101, none⟩) := by
  have hpl : (Vi.put b.length).length = Vi.size b.length := rfl
  by_cases h : Vi.size b.length ≤ k
  · have hl2 : l = Vi.put b.length ++ b.take (k - Vi.size b.length) := by
      rw [hl, List.take_append, hpl, List.take_of_length_le (by rw [hpl]; exact h)]
    unfold Vi.text
    simp only [peek_at l (b.take (k - Vi.size b.length)) 0 b.length most hu (by simpa using hl2), if_neg (show ¬ most < b.length by omega)]
    have hll : l.length = k := by rw [hl, List.length_take, List.length_append, hpl]; omega
    rw [if_neg (by simp [fine]), if_pos (by simp only [fine]; omega)]
    rfl
  · have hl2 : l = (Vi.put b.length).take k := by rw [hl, List.take_append_of_le_length (by rw [hpl]; omega)]
    have hg : ∀ (j m i a : Nat), j < Vi.size m → i + Vi.size m ≤ 10 → Vi.get i a ((Vi.put m).take j) = (0, 0, 101) := by
      intro j
      induction j with
      | zero => intro m i a h1 h2; rw [List.take_zero, Vi.get, if_pos (by omega)]
      | succ j ih =>
        intro m i a h1 h2
        by_cases hm : m < 128
        · rw [Vi.size_lt hm] at h1; omega
        · rw [Vi.size_ge (by omega)] at h1 h2
          rw [Vi.put_ge (by omega), List.take_succ_cons, Vi.get, Vi.byte_toNat (by omega), if_neg (by have := Vi.size_pos (m / 128); omega), if_pos (by omega)]
          exact ih (m / 128) (i + 1) _ (by omega) (by omega)
    have hp : Vi.peek l (fine 0) most = (0, 0, ⟨0, 101, none⟩) := by
      unfold Vi.peek
      rw [if_neg (by simp [fine])]
      simp only [fine, List.drop_zero, hl2, hg k b.length 0 0 (by omega) (by have := Vi.size_le10 hu; omega)]
      rw [if_pos (by simp)]
      rfl
    unfold Vi.text
    simp only [hp]
    rw [if_pos (by simp)]

theorem ErrIs.ends {w : World} {p : Nat → Addr} {g : Nat} {E : Value} {s : Vi.Rs} (h : ErrIs w p g E s) (hc : s.code = 101) : E = errV (p 0) := by
  rcases h with ⟨h, _⟩ | ⟨_, _, h⟩ | ⟨a, q, h, _⟩
  · omega
  · exact h
  · omega
end Go.Proofs.YtplpakdbahlgaaaDoor

namespace Go.Proofs.YtplpakdbahlgaaaDoor
open Go.RowKit

theorem flat_at {α : Type} (f : α → List UInt8) (pre rest : List UInt8) (xs : List α) (k : Nat) (hk : k < xs.length) : (pre ++ (xs.flatMap f ++ rest)).drop (pre.length + ((xs.take k).flatMap f).length) = f xs[k] ++ ((xs.drop (k + 1)).flatMap f ++ rest) := by
  have e : xs.flatMap f = (xs.take k).flatMap f ++ (f xs[k] ++ (xs.drop (k + 1)).flatMap f) := by
    conv => lhs; rw [← List.take_append_drop k xs, List.drop_eq_getElem_cons hk]
    rw [List.flatMap_append, List.flatMap_cons]
  rw [e, show pre ++ ((xs.take k).flatMap f ++ (f xs[k] ++ (xs.drop (k + 1)).flatMap f) ++ rest) = (pre ++ (xs.take k).flatMap f) ++ (f xs[k] ++ ((xs.drop (k + 1)).flatMap f ++ rest)) from by simp only [List.append_assoc]]
  exact drop_pad _ _ _ (by rw [List.length_append])
theorem flat_succ {α : Type} (f : α → List UInt8) (xs : List α) (k : Nat) (hk : k < xs.length) : (xs.take (k + 1)).flatMap f = (xs.take k).flatMap f ++ f xs[k] := by
  rw [List.take_succ_eq_append_getElem hk, List.flatMap_append, List.flatMap_cons, List.flatMap_nil, List.append_nil]
theorem flat_le {α : Type} (f : α → List UInt8) (c : Nat) : ∀ (xs : List α), (∀ x ∈ xs, (f x).length ≤ c) → (xs.flatMap f).length ≤ xs.length * c
  | [], _ => by simp
  | x :: xs, h => by
    rw [List.flatMap_cons, List.length_append, List.length_cons, Nat.succ_mul]
    have h1 := h x List.mem_cons_self
    have h2 := flat_le f c xs fun y hy => h y (List.mem_cons_of_mem _ hy)
    omega
def eU (u : Nat) : List UInt8 := Vi.put u
def eI (n : Int) : List UInt8 := Vi.put (Vi.zz n)
def eT (q : Part) : List UInt8 := Vi.put q.l.length ++ q.l

theorem text_at (l b r : List UInt8) (k most : Nat) (hu : b.length < 18446744073709551616) (h : l.drop k = Vi.put b.length ++ (b ++ r)) (hm : b.length ≤ most) : Vi.text l (fine k) most = (b, fine (k + (Vi.size b.length + b.length))) := by
  have hl : l.length - k = Vi.size b.length + (b.length + r.length) := by
    have := congrArg List.length h
    rw [List.length_drop, List.length_append, List.length_append] at this
    exact this
  have hs := Vi.size_pos b.length
  unfold Vi.text
  simp only [peek_at l (b ++ r) k b.length most hu h, if_neg (show ¬ most < b.length by omega)]
  rw [if_neg (by simp [fine]), if_neg (by simp only [fine]; omega)]
  have hd : l.drop (k + Vi.size b.length) = b ++ r := by rw [← List.drop_drop, h]; exact drop_pad _ _ _ rfl
  simp only [fine] at hd ⊢
  rw [hd]
  simp [Vi.Rs.on]
theorem peek_big (l r : List UInt8) (k u : Nat) (hu : u < 18446744073709551616) (h : l.drop k = Vi.put u ++ r) : Vi.num l (fine k) 18446744073709551615 = (u, fine (k + Vi.size u)) :=
  num_at_lo l r k u _ hu h (by omega)
theorem int_big (l r : List UInt8) (k : Nat) (n : Int) (h1 : -9223372036854775808 ≤ n) (h2 : n ≤ 9223372036854775807) (h : l.drop k = Vi.put (Vi.zz n) ++ r) : Vi.int l (fine k) (-9223372036854775808) 9223372036854775807 = (n, fine (k + Vi.size (Vi.zz n))) := by
  rw [int_at l r k n _ _ h1 h2 h, if_neg (by omega)]
theorem fixed_three (l : List UInt8) (k : Nat) (h : l.drop k = [1, 2, 3]) : Vi.fixed l (fine k) 3 = (197121, fine (k + 3)) := by
  have hl : l.length - k = 3 := by
    have := congrArg List.length h
    rwa [List.length_drop] at this
  unfold Vi.fixed
  rw [if_neg (by simp [fine]), if_neg (by simp only [fine]; omega)]
  simp only [fine, h]
  rfl
theorem fixed_end (l : List UInt8) : Vi.fixed l (fine l.length) 1 = (0, ⟨l.length, 101, none⟩) := by
  unfold Vi.fixed
  rw [if_neg (by simp [fine]), if_pos (by simp only [fine]; omega)]
  rfl
theorem num_end (l : List UInt8) (k most : Nat) : Vi.num l ⟨k, 101, none⟩ most = (0, ⟨k, 101, none⟩) := by
  unfold Vi.num Vi.peek
  rw [if_pos (by simp)]
  rfl

/-- What a reader reads of all that was laid: where it is ahead of each. -/
theorem layout (us : List Nat) (ns : List Int) (ps : List Part) (L : List UInt8) (hL : L = ((us.flatMap eU ++ ns.flatMap eI) ++ ps.flatMap eT) ++ [1, 2, 3])
    (bu : ∀ k, k < us.length → us.getD k 0 < 18446744073709551616) (bn : ∀ k, k < ns.length → -9223372036854775808 ≤ ns.getD k 0 ∧ ns.getD k 0 ≤ 9223372036854775807) (bp : ∀ q ∈ ps, q.l.length ≤ 40) :
    ∃ PU PI PT : Nat → Nat, PU 0 = 0 ∧ (∀ k, k < us.length → Vi.num L (fine (PU k)) 18446744073709551615 = (us.getD k 0, fine (PU (k + 1)))) ∧ PI 0 = PU us.length ∧
      (∀ k, k < ns.length → Vi.int L (fine (PI k)) (-9223372036854775808) 9223372036854775807 = (ns.getD k 0, fine (PI (k + 1)))) ∧ PT 0 = PI ns.length ∧
      (∀ k (h : k < ps.length), Vi.text L (fine (PT k)) 40 = (ps[k].l, fine (PT (k + 1)))) ∧ PT ps.length + 3 = L.length ∧ Vi.fixed L (fine (PT ps.length)) 3 = (197121, fine (PT ps.length + 3)) := by
  have e1 : L = [] ++ (us.flatMap eU ++ (ns.flatMap eI ++ (ps.flatMap eT ++ [1, 2, 3]))) := by rw [hL]; simp only [List.append_assoc, List.nil_append]
  have e2 : L = us.flatMap eU ++ (ns.flatMap eI ++ (ps.flatMap eT ++ [1, 2, 3])) := by rw [hL]; simp only [List.append_assoc]
  have e3 : L = (us.flatMap eU ++ ns.flatMap eI) ++ (ps.flatMap eT ++ [1, 2, 3]) := by rw [hL]; simp only [List.append_assoc]
  refine ⟨fun k => (([] : List UInt8)).length + ((us.take k).flatMap eU).length, fun k => (us.flatMap eU).length + ((ns.take k).flatMap eI).length, fun k => (us.flatMap eU ++ ns.flatMap eI).length + ((ps.take k).flatMap eT).length, by simp, fun k hk => ?_, by simp, fun k hk => ?_, by simp, fun k hk => ?_, ?_, ?_⟩
  · have hd := flat_at eU [] (ns.flatMap eI ++ (ps.flatMap eT ++ [1, 2, 3])) us k hk
    rw [← e1] at hd
    have hg : us[k] = us.getD k 0 := by simp [List.getD, hk]
    rw [hg] at hd
    rw [peek_big L _ _ _ (bu k hk) hd]
    dsimp only
    rw [flat_succ eU us k hk, List.length_append, hg, ← Nat.add_assoc]
    rfl
  · have hd := flat_at eI (us.flatMap eU) (ps.flatMap eT ++ [1, 2, 3]) ns k hk
    rw [← e2] at hd
    have hg : ns[k] = ns.getD k 0 := by simp [List.getD, hk]
    rw [hg] at hd
    rw [int_big L _ _ _ (bn k hk).1 (bn k hk).2 hd]
    dsimp only
    rw [flat_succ eI ns k hk, List.length_append, hg, ← Nat.add_assoc]
    rfl
  · have hd := flat_at eT (us.flatMap eU ++ ns.flatMap eI) [1, 2, 3] ps k hk
    rw [← e3] at hd
    have hb := bp _ (List.getElem_mem hk)
    rw [text_at L ps[k].l ((ps.drop (k + 1)).flatMap eT ++ [1, 2, 3]) _ 40 (by omega) (by rw [hd]; unfold eT; rw [List.append_assoc]) hb]
    dsimp only
    rw [flat_succ eT ps k hk]
    refine Prod.ext rfl (congrArg fine ?_)
    have hh : (eT ps[k]).length = Vi.size ps[k].l.length + ps[k].l.length := by unfold eT; rw [List.length_append]; rfl
    simp only [List.length_append, hh]; omega
  · dsimp only
    rw [List.take_length, hL]
    simp only [List.length_append, List.length_cons, List.length_nil]
  · refine fixed_three L _ ?_
    dsimp only
    rw [List.take_length, ← List.length_append, hL]
    exact drop_pad _ _ _ rfl
end Go.Proofs.YtplpakdbahlgaaaDoor

namespace Go.Proofs.YtplpakdbahlgaaaDoor
namespace Vi
theorem get_canon : ∀ (l : List UInt8) (i a n k : Nat), get i a l = (n, k, 0) → ∃ m r, l = put m ++ r ∧ n = a + m * 2 ^ (7 * i) ∧ k = i + size m ∧ (0 < i → 0 < m) := by
  intro l
  induction l with
  | nil => intro i a n k h; rw [get] at h; split at h <;> simp at h
  | cons c l ih =>
    intro i a n k h
    have hc := c.toNat_lt
    rw [get] at h
    split at h
    · simp at h
    · split at h
      · rename_i h128
        obtain ⟨m, r, e, hn, hk, hp⟩ := ih _ _ _ _ h
        have hp := hp (by omega)
        refine ⟨c.toNat % 128 + 128 * m, r, ?_, ?_, ?_, fun _ => by omega⟩
        · rw [put_ge (by omega), show (c.toNat % 128 + 128 * m) % 128 + 128 = c.toNat by omega, show (c.toNat % 128 + 128 * m) / 128 = m by omega, e, List.cons_append]
          congr 1
          apply UInt8.toNat_inj.1
          rw [byte_toNat hc]
        · rw [hn, pow7, Nat.add_mul, Nat.mul_assoc 128 m, Nat.mul_left_comm 128 m, Nat.add_assoc]
        · rw [hk, size_ge (n := c.toNat % 128 + 128 * m) (by omega), show (c.toNat % 128 + 128 * m) / 128 = m by omega]; omega
      · split at h
        · simp at h
        · rename_i h1 h2
          simp at h
          refine ⟨c.toNat, l, ?_, h.1.symm, ?_, fun h0 => ?_⟩
          · rw [put_lt (by omega)]
            have : UInt8.ofNat c.toNat = c := UInt8.toNat_inj.1 (byte_toNat hc)
            rw [this]; rfl
          · rw [size_lt (by omega)]; omega
          · omega
theorem zz_unzz (u : Nat) : zz (unzz u) = u := by
  unfold unzz zz
  split
  · rw [if_pos (by omega)]; omega
  · rw [if_neg (by omega)]; omega
theorem peek_stays {l : List UInt8} {s : Rs} {most : Nat} (h : (peek l s most).2.2.code = 0) : s.code = 0 := by
  unfold peek at h
  by_cases hc : s.code ≠ 0
  · rw [if_pos hc] at h; exact h
  · omega
theorem fail_code (s : Rs) (c : Nat) : (s.fail c).code = c := by unfold Rs.fail; split <;> simp_all
theorem peek_fine (l : List UInt8) (k most : Nat) : peek l (fine k) most = if (get 0 0 (l.drop k)).2.2 ≠ 0 then (0, 0, (fine k).fail (get 0 0 (l.drop k)).2.2) else if most < (get 0 0 (l.drop k)).1 then (0, 0, (fine k).fail 105) else ((get 0 0 (l.drop k)).1, (get 0 0 (l.drop k)).2.1, fine k) := by
  unfold peek
  rw [if_neg (by simp [fine])]
  rfl
theorem peekI_fine (l : List UInt8) (k : Nat) (lo hi : Int) : peekI l (fine k) lo hi = if (get 0 0 (l.drop k)).2.2 ≠ 0 then (0, 0, (fine k).fail (get 0 0 (l.drop k)).2.2) else if unzz (get 0 0 (l.drop k)).1 < lo ∨ hi < unzz (get 0 0 (l.drop k)).1 then (0, 0, (fine k).fail 105) else (unzz (get 0 0 (l.drop k)).1, (get 0 0 (l.drop k)).2.1, fine k) := by
  unfold peekI
  rw [if_neg (by simp [fine])]
  rfl
theorem num_canon {l : List UInt8} {k most : Nat} (h : (peek l (fine k) most).2.2.code = 0) : ∃ u r, l.drop k = put u ++ r ∧ u ≤ most ∧ u < 18446744073709551616 ∧ peek l (fine k) most = (u, size u, fine k) := by
  have hlt := (get_lt (l.drop k) 0 0 (by omega) (by omega)).1
  have hcn := get_canon (l.drop k) 0 0
  rw [peek_fine] at h ⊢
  generalize get 0 0 (l.drop k) = G at *
  obtain ⟨n, j, c⟩ := G
  simp only at h hlt hcn ⊢
  by_cases hc : c ≠ 0
  · rw [if_pos hc] at h; simp only [fail_code] at h; exact absurd h hc
  · rw [if_neg hc] at h ⊢
    by_cases hm : most < n
    · rw [if_pos hm] at h; simp only [fail_code] at h; omega
    · rw [if_neg hm]
      obtain rfl : c = 0 := by omega
      obtain ⟨m, r, e, hn, hk, _⟩ := hcn _ _ rfl
      simp at hn hk
      subst hn hk
      exact ⟨n, r, e, by omega, hlt, rfl⟩
theorem int_canon {l : List UInt8} {k : Nat} {lo hi : Int} (h : (Vi.int l (fine k) lo hi).2.code = 0) : ∃ n r, l.drop k = put (zz n) ++ r ∧ lo ≤ n ∧ n ≤ hi ∧ Vi.int l (fine k) lo hi = (n, fine (k + size (zz n))) := by
  have hcn := get_canon (l.drop k) 0 0
  unfold Vi.int at h ⊢
  rw [peekI_fine] at h ⊢
  generalize get 0 0 (l.drop k) = G at *
  obtain ⟨n, j, c⟩ := G
  simp only at h hcn ⊢
  by_cases hc : c ≠ 0
  · rw [if_pos hc] at h; simp only [Rs.on, fail_code] at h; exact absurd h hc
  · rw [if_neg hc] at h ⊢
    by_cases hm : unzz n < lo ∨ hi < unzz n
    · rw [if_pos hm] at h; simp only [Rs.on, fail_code] at h; omega
    · rw [if_neg hm]
      obtain rfl : c = 0 := by omega
      obtain ⟨m, r, e, hn, hk, _⟩ := hcn _ _ rfl
      simp at hn hk
      subst hn hk
      exact ⟨unzz n, r, by rw [zz_unzz]; exact e, by omega, by omega, by rw [zz_unzz]; rfl⟩
theorem int_stays {l : List UInt8} {s : Rs} {lo hi : Int} (h : (Vi.int l s lo hi).2.code = 0) : s.code = 0 := by
  unfold Vi.int peekI at h
  by_cases hc : s.code ≠ 0
  · rw [if_pos hc] at h; exact h
  · omega
end Vi
end Go.Proofs.YtplpakdbahlgaaaDoor

namespace Go.Proofs.YtplpakdbahlgaaaDoor
open Go.RowKit

theorem ErrIs.bad {w : World} {p : Nat → Addr} {g : Nat} {E : Value} {s : Vi.Rs} (h : ErrIs w p g E s) (hc : s.code ≠ 0) : ∃ u x, E = .iface u x := by
  rcases h with ⟨h, _⟩ | ⟨_, _, h⟩ | ⟨a, q, _, _, h, _⟩
  · exact absurd h hc
  · exact ⟨_, _, h⟩
  · exact ⟨_, _, h⟩
theorem ErrIs.good {w : World} {p : Nat → Addr} {g : Nat} {E : Value} {s : Vi.Rs} (h : ErrIs w p g E s) (hc : s.code = 0) : E = .nilIface := by
  rcases h with ⟨_, _, h⟩ | ⟨h, _⟩ | ⟨a, q, h, _⟩
  · exact h
  · omega
  · omega
theorem ret2 {a b a' b' : Value} (h1 : a = a') (h2 : b = b') : Ending.returned (.tuple #[a, b]) = Ending.returned (.tuple #[a', b']) := by rw [h1, h2]
theorem fail_code (w : World) (p : Nat → Addr) (g : Nat) (l : List UInt8) (s : Vi.Rs) (c : Nat) (hc : c = 101 ∨ c = 103 ∨ c = 105) (h : Rdr w p g l s) (hs : SentsV w p) :
    Calls Tryd.prog 78 #[.pointer (some ⟨g, 0, none⟩), errV (p (c - 101))] w fun e w' => e = .returned (.tuple #[]) ∧ Rdr w' p g l (s.fail c) ∧ But g w w' := by
  rcases hc with rfl | rfl | rfl
  · exact fail_end w p g l s h hs
  · exact fail_at w p g l s 2 (.inl rfl) h hs
  · exact fail_at w p g l s 4 (.inr rfl) h hs

set_option maxRecDepth 100000 in
set_option maxHeartbeats 1000000 in
theorem next_bad (w : World) (p : Nat → Addr) (g : Nat) (l : List UInt8) (s : Vi.Rs) (most : Nat) (h : Rdr w p g l s) (hc : s.code ≠ 0) (F : Value) :
    Calls Tryd.prog 71 #[.pointer (some ⟨g, 0, none⟩), F, .int .u64 0, .int .u64 most] w fun e w' => e = .returned (.tuple #[.int .u64 0, .int .i64 0]) ∧ w = w' := by
  obtain ⟨A, cap, E, h0, h1, h2, ha, hne, he⟩ := h.ex
  obtain ⟨u, x, rfl⟩ := he.bad hc
  have k1 := neq_nil u x
  clear h hc ha hne he
  go_enter Tryd.func71, Tryd.ntmps71
  go_wp2_with fail
  go_ret2
  exact ⟨rfl, rfl⟩

set_option maxRecDepth 100000 in
set_option maxHeartbeats 1000000 in
theorem next_good (w : World) (p : Nat → Addr) (g : Nat) (l : List UInt8) (s : Vi.Rs) (most : Nat) (h : Rdr w p g l s) (hs : SentsV w p) (hl : l.length ≤ 1000000) (hc : s.code = 0) (a k c : Nat) (hg : Vi.get 0 0 (l.drop s.at_) = (a, k, c)) (h3 : c = 0 ∨ c = 101 ∨ c = 103) :
    Calls Tryd.prog 71 #[.pointer (some ⟨g, 0, none⟩), .func (.func 72) #[] #[], .int .u64 0, .int .u64 most] w fun e w' =>
      if c ≠ 0 then e = .returned (.tuple #[.int .u64 0, .int .i64 0]) ∧ Rdr w' p g l (s.fail c) ∧ But g w w'
      else if most < a then e = .returned (.tuple #[.int .u64 0, .int .i64 0]) ∧ Rdr w' p g l (s.fail 105) ∧ But g w w'
      else e = .returned (.tuple #[.int .u64 a, .int .i64 k]) ∧ Rdr w' p g l s ∧ But g w w' := by
  obtain ⟨A, cap, E, h0, h1, h2, ha, hne, he⟩ := h.ex
  obtain rfl := he.good hc
  have hle := h.ok.le
  have HR := hide h
  have HS := hide hs
  have HG := hide (fun W hW hS => get_at (cutA A cap s.at_) (cap - s.at_) (l.length - s.at_) (l.drop s.at_) W p a k c (by rw [List.length_drop]) hg (by omega) ((ha.below (w' := W) hW (Nat.le_refl _)).cut s.at_ hle) hS)
  have k1 := fun W => run_cut_l W A l.length cap s.at_ hle
  have hcap := ha.le
  clear ha hne he hs h hc hg
  go_enter Tryd.func71, Tryd.ntmps71
  go_wp2_with fail
  go_quiet (first | (go_at_call 72; exact Calls.quiet_of (HG.out _ (below_drewN (Below.refl _ _) _) (HS.out.below (below_drewN (Below.refl _ _) _)))))
  have HRQ := hide (HR.out.below (below_drewN (Below.refl w.heap.size w) nq))
  have HSQ := hide (HS.out.below (below_drewN (Below.refl w.heap.size w) nq))
  have HBQ := hide (But.drewN g w nq)
  clear k1
  by_cases hc0 : c = 0
  · subst hc0
    rw [show errOf p 0 = .nilIface from rfl]
    by_cases hm : most < a
    · have hm' : (most : Int) < (a : Int) := by omega
      have HM := hide hm
      have c4 : w.cell? ⟨0, 0, none⟩ = some (.iface 123 (.pointer (some (p 4)))) := HS.out.cell 4 (by omega)
      have k2 := neq_nil 123 (.pointer (some (p 4)))
      have HF := hide (fail_code (w.drewN nq) p g l s 105 (by omega) HRQ.out HSQ.out)
      rw [show 105 - 101 = 4 from rfl] at HF
      unfold errV at HF
      clear hm HG
      go_wp2_with fail
      refine HF.out.mono ?_
      rintro e w1 ⟨rfl, hr1, hb1⟩
      go_wp2_with fail
      go_ret2
      exact ⟨rfl, hr1, HBQ.out.trans hb1⟩
    · have HM := hide hm
      have hm' : ¬ (most : Int) < (a : Int) := by omega
      clear hm HG
      go_wp2_with fail
      go_ret2
      exact ⟨rfl, HRQ.out, HBQ.out⟩
  · have hE : errOf p c = .iface 123 (.pointer (some (p (c - 101)))) := by unfold errOf; rw [if_neg hc0]; rfl
    rw [hE]
    have k2 := neq_nil 123 (.pointer (some (p (c - 101))))
    have k3 := eqn_nil 123 (.pointer (some (p (c - 101))))
    have HF := hide (fail_code (w.drewN nq) p g l s c (by omega) HRQ.out HSQ.out)
    unfold errV at HF
    have HC := hide hc0
    clear hc0 hE HG
    go_wp2_with fail
    refine HF.out.mono ?_
    rintro e w1 ⟨rfl, hr1, hb1⟩
    go_wp2_with fail
    go_ret2
    exact ⟨rfl, hr1, HBQ.out.trans hb1⟩

theorem next_any (w : World) (p : Nat → Addr) (g : Nat) (l : List UInt8) (s : Vi.Rs) (most : Nat) (h : Rdr w p g l s) (hs : SentsV w p) (hl : l.length ≤ 1000000) :
    Calls Tryd.prog 71 #[.pointer (some ⟨g, 0, none⟩), .func (.func 72) #[] #[], .int .u64 0, .int .u64 most] w fun e w' => e = .returned (.tuple #[.int .u64 (Vi.peek l s most).1, .int .i64 (Vi.peek l s most).2.1]) ∧ Rdr w' p g l (Vi.peek l s most).2.2 ∧ But g w w' := by
  by_cases hc : s.code ≠ 0
  · have e : Vi.peek l s most = (0, 0, s) := by unfold Vi.peek; rw [if_pos hc]
    rw [e]
    exact (next_bad w p g l s most h hc _).mono fun e w' ⟨h1, h2⟩ => ⟨h1, h2 ▸ h, h2 ▸ But.refl g w⟩
  · have hc0 : s.code = 0 := by omega
    obtain ⟨_, _, _, h4⟩ := Vi.getD_bd l s
    refine (next_good w p g l s most h hs hl hc0 _ _ _ rfl h4).mono fun e w' hp => ?_
    unfold Vi.peek
    rw [if_neg hc]
    simp only
    by_cases h5 : (Vi.get 0 0 (l.drop s.at_)).2.2 ≠ 0
    · rw [if_pos h5] at hp ⊢; exact hp
    · rw [if_neg h5] at hp ⊢
      by_cases h6 : most < (Vi.get 0 0 (l.drop s.at_)).1
      · rw [if_pos h6] at hp ⊢; exact hp
      · rw [if_neg h6] at hp ⊢; exact hp
end Go.Proofs.YtplpakdbahlgaaaDoor

namespace Go.Proofs.YtplpakdbahlgaaaDoor
open Go.RowKit

end Go.Proofs.YtplpakdbahlgaaaDoor

namespace Go.Proofs.YtplpakdbahlgaaaDoor
open Go.RowKit

theorem Rdr.at_add {w : World} {p : Nat → Addr} {g : Nat} {l : List UInt8} {s : Vi.Rs} (h : Rdr w p g l s) (k : Nat) (hk : s.at_ + k ≤ l.length) (hz : s.code ≠ 0 → k = 0) : Rdr (w.setCell ⟨g, 1, none⟩ (.int .i64 ((s.at_ : Int) + (k : Int)))) p g l (s.on k) := h.at_set k hk hz
/-- What the walks load. -/
theorem Rdr.cells {w : World} {p : Nat → Addr} {g : Nat} {l : List UInt8} {s : Vi.Rs} (h : Rdr w p g l s) : w.cell? ⟨g, 1, none⟩ = some (.int .i64 s.at_) ∧ w.frozen? ⟨g, 1, none⟩ = false ∧ g < w.heap.size := by
  obtain ⟨A, cap, E, h0, h1, h2, ha, hne, he⟩ := h.ex
  exact ⟨h1, h.free 1, h.lt⟩

set_option maxRecDepth 100000 in
set_option maxHeartbeats 400000 in
theorem num_any (w : World) (p : Nat → Addr) (g : Nat) (l : List UInt8) (s : Vi.Rs) (most : Nat) (h : Rdr w p g l s) (hs : SentsV w p) (hl : l.length ≤ 1000000) :
    Calls Tryd.prog 53 #[.pointer (some ⟨g, 0, none⟩), .int .u64 most] w fun e w' => e = .returned (.int .u64 (Vi.num l s most).1) ∧ Rdr w' p g l (Vi.num l s most).2 ∧ But g w w' := by
  have HN := hide (next_any w p g l s most h hs hl)
  obtain ⟨-, o2, o3, -⟩ := Vi.peek_ok h.ok most
  have HB := hide (Vi.peek_bad (l := l) (s := s) (most := most))
  have HE : Hid (Vi.num l s most = ((Vi.peek l s most).1, (Vi.peek l s most).2.2.on (Vi.peek l s most).2.1)) := hide rfl
  rw [← o2] at o3
  clear h hs o2
  generalize Vi.peek l s most = q at *
  go_enter Tryd.func53, Tryd.ntmps53
  go_wp2_with fail
  refine HN.out.mono ?_
  rintro e w1 ⟨rfl, hr1, hb1⟩
  obtain ⟨c1, f1, t1⟩ := hr1.cells
  have HS := hide (hr1.at_add q.2.1 o3 (fun h => (HB.out h).2))
  have HBB := hide (hb1.trans (But.setCell g 1 w1 (.int .i64 ((q.2.2.at_ : Int) + (q.2.1 : Int)))))
  clear hr1 hb1 HN
  go_wp2_with fail
  go_ret
  rw [HE.out]
  exact ⟨rfl, HS.out, HBB.out⟩

theorem peekI_bad {l : List UInt8} {s : Vi.Rs} {lo hi : Int} (h : (Vi.peekI l s lo hi).2.2.code ≠ 0) : (Vi.peekI l s lo hi).2.1 = 0 := by
  unfold Vi.peekI at h ⊢
  by_cases hc : s.code ≠ 0
  · rw [if_pos hc]
  · rw [if_neg hc] at h ⊢
    simp only at h ⊢
    by_cases hg : (Vi.get 0 0 (l.drop s.at_)).2.2 ≠ 0
    · rw [if_pos hg]
    · rw [if_neg hg] at h ⊢
      by_cases hm : Vi.unzz (Vi.get 0 0 (l.drop s.at_)).1 < lo ∨ hi < Vi.unzz (Vi.get 0 0 (l.drop s.at_)).1
      · rw [if_pos hm]
      · rw [if_neg hm] at h; exact absurd h hc

theorem rat_any (w : World) (p : Nat → Addr) (g : Nat) (l : List UInt8) (s : Vi.Rs) (h : Rdr w p g l s) :
    Calls Tryd.prog 56 #[.pointer (some ⟨g, 0, none⟩)] w fun e w' => e = .returned (.int .i64 s.at_) ∧ w = w' := by
  obtain ⟨c1, f1, t1⟩ := h.cells
  clear h
  go_enter Tryd.func56, Tryd.ntmps56
  go_wp2_with fail
  go_ret
  exact ⟨rfl, rfl⟩
theorem rleft_any (w : World) (p : Nat → Addr) (g : Nat) (l : List UInt8) (s : Vi.Rs) (h : Rdr w p g l s) (hl : l.length ≤ 1000000) :
    Calls Tryd.prog 55 #[.pointer (some ⟨g, 0, none⟩)] w fun e w' => e = .returned (.int .i64 ((l.length - s.at_ : Nat) : Int)) ∧ ∃ n, w' = w.drewN n := by
  obtain ⟨A, cap, E, h0, h1, h2, ha, hne, he⟩ := h.ex
  have hle := h.ok.le
  have HE : Hid (((l.length - s.at_ : Nat) : Int) = (l.length : Int) - s.at_) := by show _ = _; omega
  clear h ha hne he h2
  go_enter Tryd.func55, Tryd.ntmps55
  go_wp2_with fail
  go_quiet (fail)
  go_wp2_with fail
  go_ret
  exact ⟨by rw [HE.out]; rfl, _, rfl⟩
theorem rerr_any (w : World) (p : Nat → Addr) (g : Nat) (l : List UInt8) (s : Vi.Rs) (h : Rdr w p g l s) :
    Calls Tryd.prog 54 #[.pointer (some ⟨g, 0, none⟩)] w fun e w' => (∃ E, e = .returned E ∧ ErrIs w p g E s) ∧ w = w' := by
  obtain ⟨A, cap, E, h0, h1, h2, ha, hne, he⟩ := h.ex
  have hlt := h.lt
  have HE := hide he
  clear h ha hne he h0 h1
  go_enter Tryd.func54, Tryd.ntmps54
  go_wp2_with fail
  go_ret
  exact ⟨⟨E, rfl, HE.out⟩, rfl⟩
end Go.Proofs.YtplpakdbahlgaaaDoor

namespace Go.Proofs.YtplpakdbahlgaaaDoor
open Go.RowKit

theorem Own.empty (w : World) (base : Nat) (hb : base ≤ w.heap.size) : Own (w.alloc (.cells #[] 5)) base (.slice (some ⟨w.heap.size, 0, none⟩) 0 0) [] := by
  refine ⟨by simp [cells], .inr ⟨w.heap.size, 0, #[], rfl, hb, heap_alloc_new _ _, by simp, by simp [maxLen], by simp, by simp [cells]⟩⟩

set_option maxRecDepth 100000 in
theorem clone_any (A : Option Addr) (cap n : Nat) (l : List UInt8) (w : World) (hn : l.length = n) (hl : n ≤ 1000000) (ha : Arg w A cap l) :
    Calls Tryd.prog 70 #[.slice A n cap] w fun e w' => ∃ A' c', e = .returned (.slice A' n c') ∧ Arg w' A' c' l ∧ (∀ b off, A' = some ⟨b, off, none⟩ → w.heap.size ≤ b ∧ b < w'.heap.size) ∧ Below w.heap.size w w' := by
  have ks := fun W => Lib.run_eql_slice_nil (P := Tryd.prog) W 45 5 A n cap 0 0 Tryd.underlying45
  cases A with
  | none =>
    have h0 : l = [] := by
      have := ha.nil rfl
      have := ha.le
      exact List.eq_nil_of_length_eq_zero (by omega)
    subst h0
    obtain rfl : n = 0 := hn.symm
    have hc := ha.nil rfl
    subst hc
    have HA := hide ha
    clear ha hn
    go_enter Tryd.func70, Tryd.ntmps70
    go_wp2_with fail
    go_ret
    exact ⟨none, 0, rfl, HA.out, (fun b off h => by cases h), Below.refl _ _⟩
  | some a =>
    have HA := hide ha
    have HN := hide hn
    have HO := hide (Own.empty w w.heap.size (Nat.le_refl _))
    clear ha hn
    go_enter Tryd.func70, Tryd.ntmps70
    go_wp2_with (at_builtin; refine wpList_app (w := w.alloc _) rfl (.tmp 5) (.tmp 6) rfl w.heap.size _ [] l rfl HO.out (some a) n cap rfl HN.out (HA.out.reads.alloc _) (by simp; omega) (by simp) ?_; intro v w3 hown3 hg3 hv3)
    have hb : Below w.heap.size w w3 := (balloc (Below.refl _ _) _).grown hg3 (by simp) (fun g hg => (HO.out.lt g hg).1)
    rw [List.nil_append] at hown3
    obtain ⟨A', c', rfl, ha'⟩ := hown3.arg
    rw [HN.out]
    go_ret
    refine ⟨A', c', rfl, ha', fun b off h => ?_, hb⟩
    subst h
    exact hown3.lt b rfl

/-- A reader at its beginning. -/
def start : Vi.Rs := ⟨0, 0, none⟩
set_option maxRecDepth 100000 in
theorem newReader_any (A : Option Addr) (cap n : Nat) (l : List UInt8) (w : World) (p : Nat → Addr) (hn : l.length = n) (hl : n ≤ 1000000) (ha : Arg w A cap l) :
    Calls Tryd.prog 52 #[.slice A n cap] w fun e w' => ∃ g, e = .returned (.pointer (some ⟨g, 0, none⟩)) ∧ w.heap.size ≤ g ∧ Rdr w' p g l start ∧ Below w.heap.size w w' := by
  have HC := hide (clone_any A cap n l w hn hl ha)
  have HN := hide hn
  clear ha hn
  go_enter Tryd.func52, Tryd.ntmps52
  go_wp2_with fail
  refine HC.out.mono ?_
  rintro e w1 ⟨A', c', rfl, ha', hlo, hb⟩
  have HA := hide ha'
  have HL := hide hlo
  have HB := hide hb
  clear ha' hlo hb HC
  go_wp2_with fail
  go_ret
  have hb1 : Below w1.heap.size w1 (w1.alloc (.cells #[.slice A' n c', .int .i64 0, .nilIface] 107)) := balloc (Below.refl _ _) _
  refine ⟨w1.heap.size, rfl, HB.out.size, ⟨by simp, fun k => by simp [go_sem], ⟨Nat.zero_le _, .inl ⟨rfl, rfl⟩⟩, A', c', .nilIface, ?_, ?_, ?_, HA.out.below hb1 (Nat.le_refl _), fun b off h => ?_, .inl ⟨rfl, rfl, rfl⟩⟩, HB.out.trans (hb1.mono HB.out.size)⟩
  · rw [World.cell?_alloc_mark, HN.out]; rfl
  · rw [World.cell?_alloc_mark]; rfl
  · rw [World.cell?_alloc_mark]; rfl
  · have := (HL.out b off h).2; omega

theorem peek_good {l : List UInt8} {s : Vi.Rs} {most : Nat} (h : (Vi.peek l s most).2.2.code = 0) : (Vi.peek l s most).2.2 = s := by
  unfold Vi.peek at h ⊢
  by_cases hc : s.code ≠ 0
  · rw [if_pos hc]
  · rw [if_neg hc] at h ⊢
    simp only at h ⊢
    by_cases hg : (Vi.get 0 0 (l.drop s.at_)).2.2 ≠ 0
    · rw [if_pos hg] at h
      exfalso
      unfold Vi.Rs.fail at h
      split at h
      · simp at h
      · exact hg h
    · rw [if_neg hg] at h ⊢
      by_cases hm : most < (Vi.get 0 0 (l.drop s.at_)).1
      · rw [if_pos hm] at h; exact absurd h (by simp [Vi.Rs.fail])
      · rw [if_neg hm]
/-- A slice of its own that reads as these bytes. -/
def Own2 (lo g : Nat) (l : List UInt8) (v : Value) (w : World) : Prop := ∃ A c, v = .slice A l.length c ∧ Arg w A c l ∧ ∀ b off, A = some ⟨b, off, none⟩ → lo ≤ b ∧ b ≠ g
def Known.bytes (lo g : Nat) (l : List UInt8) : Known := ⟨fun v w => g < w.heap.size ∧ Own2 lo g l v w, fun _ _ _ ⟨h0, A, c, h1, h2, h3⟩ hb => ⟨Nat.lt_of_lt_of_le h0 hb.size, A, c, h1, h2.below hb (Nat.le_refl _), h3⟩⟩

end Go.Proofs.YtplpakdbahlgaaaDoor
