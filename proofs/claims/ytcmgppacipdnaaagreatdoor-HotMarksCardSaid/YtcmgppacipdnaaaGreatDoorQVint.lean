/-
  The walks through package vint's Size, Put and PutInt, and through the statements' own small helpers.
  The walk through package vint's PutInt.
  The walk through the chapter's example: Put of 300.
  A batch's records in memory; the walks through rec's small helpers: within, Next, fixed, text.
-/
import Derived.Test.YtcmgppacipdnaaaGreatDoorQTable
import Derived.Test.YtcmgppacipdnaaaGreatDoorQVi
import Derived.WalkKit
import Derived.ProofKit
import Derived.Below
import Derived.BigQuiet
import Derived.Deep.QuietTactic
import Derived.Outline
import Derived.LoopTactic
import Derived.IntWalk
namespace Go.Proofs.YtcmgppacipdnaaaGreatDoor
open Go.RowKit

set_option maxRecDepth 100000 in
set_option maxHeartbeats 400000 in
theorem size_any (n : Nat) (w : World) (hn : n < 18446744073709551616) :
    Calls Tryz.prog 171 #[.int .u64 n] w fun e w' => e = .returned (.int .i64 (Vi.size n)) ∧ w = w' := by
  have HS := hide (Vi.size_le10 hn)
  clear hn
  go_enter Tryz.func171, Tryz.ntmps171
  go_wp2
  go_loop [0, 3] (fun a s => ∃ m k : Nat, a = .int .u64 m ∧ s = .int .i64 k ∧ k ≤ 10 ∧ k + Vi.size m = Vi.size n + 1) (fun a _ => (intOf a).toNat)
  case atStart => exact ⟨n, 1, rfl, rfl, by omega, by omega⟩
  case round =>
    obtain ⟨m, k, rfl, rfl, hk, hs⟩ := hrel
    have HR := hide hs
    clear hs
    by_cases h : 128 ≤ m
    · have HG := hide (Vi.size_ge h)
      go_wp2
      go_round
      case rel => exact ⟨m / 128, k + 1, by go_num, by go_num, by have := HR.out; have := HG.out; have := HS.out; have := Vi.size_pos (m / 128); omega, by have := HR.out; have := HG.out; omega⟩
      case measure => simp [intOf]; omega
    · have HL := hide (Vi.size_lt (show m < 128 by omega))
      go_wp2
      go_ret
      exact ⟨by have h1 := HR.out; have h2 := HL.out; rw [show Vi.size n = k by omega]; rfl, rfl⟩

theorem or128 (n : Nat) : bits .or .u8 ((n : Int) % (256 : Int)) 128 = B (UInt8.ofNat (n % 128 + 128)) := by
  unfold B
  rw [UInt8.toNat_ofNat', show (n : Int) % 256 = ((n % 256 : Nat) : Int) from by omega, show (128 : Int) = ((128 : Nat) : Int) from rfl, u8_or_nat _ _ (by omega) (by omega)]
  have h : ∀ x, x < 256 → x ||| 128 = x % 128 + 128 := by decide +kernel
  rw [h _ (by omega)]
  congr 1; omega
theorem mod256n (n : Nat) : (n : Int) % (256 : Int) = B (UInt8.ofNat n) := by
  unfold B
  rw [UInt8.toNat_ofNat']; omega

set_option maxRecDepth 100000 in
set_option maxHeartbeats 400000 in
theorem put_any (A : Option Addr) (cap : Nat) (l : List UInt8) (n : Nat) (w : World) (hn : n < 18446744073709551616) (hl : l.length ≤ 1000000) (hr : Reads w A l) :
    Calls Tryz.prog 133 #[.slice A l.length cap, .int .u64 n] w fun e w' => ∃ v, e = .returned v ∧ Own w' w.heap.size v (l ++ Vi.put n) ∧ Below w.heap.size w w' := by
  have HR := hide hr
  have HS := hide (Vi.size_le10 hn)
  have HSZ := hide (fun W => size_any n W hn)
  have hsz := Vi.size_le10 hn
  have hsp := Vi.size_pos n
  clear hr hn
  go_enter Tryz.func133, Tryz.ntmps133
  go_wp2_with (first
    | (go_at_call 171; refine (HSZ.out _).mono ?_; rintro e w' ⟨rfl, rfl⟩)
    | (at_make; refine wpList_mk rfl (.tmp 7) (.tmp 12) rfl l.length (l.length + Vi.size n) _ _ rfl rfl rfl (by omega) (by omega) (by omega) ?_; intro w1 hown1 hb1 hs1)
    | (refine wpList_cp (o := ⟨some 16, _, _, _, _, _⟩) rfl (.tmp 14) (.tmp 15) rfl w.heap.size _ l _ _ _ rfl hown1 A l.length cap rfl rfl (HR.out.below hb1 (Nat.le_refl _)) ?_; intro w2 hown2 hg2 hs2))
  have hb2 : Below w.heap.size w w2 := hb1.grown hg2 (by omega) (by intro k hk; simp [Value.ownBlock] at hk; omega)
  have hown2' : Own w2 w.heap.size (.slice (some ⟨w.heap.size, 0, none⟩) l.length (l.length + Vi.size n)) l := by
    have e1 : l.take (List.replicate l.length (0 : UInt8)).length = l := by rw [List.length_replicate, List.take_length]
    have e2 : (List.replicate l.length (0 : UInt8)).drop l.length = [] := by simp
    have := hown2
    rwa [e1, e2, List.append_nil] at this
  have HB2 := hide hb2
  have HO2 := hide hown2'
  clear hown1 hown2 hown2' hs1 hs2 hg2 hb2 hb1
  simp only [Act.put, List.setIfInBounds_toArray, List.set_cons_succ, List.set_cons_zero, goInt, List.length_replicate, show Nat.min l.length l.length = l.length from Nat.min_self _]
  go_loopw [1, 5] (fun a v wr => ∃ (m : Nat) (pre : List UInt8), a = .int .u64 m ∧ Own wr w.heap.size v (l ++ pre) ∧ pre ++ Vi.put m = Vi.put n ∧ Below w.heap.size w wr) (fun a _ _ => (intOf a).toNat)
  case atStart => exact ⟨n, [], rfl, by rw [List.append_nil]; exact HO2.out, rfl, HB2.out⟩
  case round =>
    obtain ⟨m, pre, rfl, hown, hpre, hb⟩ := hrel
    have hpl : pre.length < 10 := by
      have h1 := congrArg List.length hpre
      rw [List.length_append] at h1
      have h2 := Vi.size_pos m
      unfold Vi.size at h2 hsz
      omega
    have HO := hide hown
    have HP := hide hpre
    have HB := hide hb
    have HZ : Hid (w.heap.size ≤ wr.heap.size) := hb.size
    clear hown hpre hb
    by_cases h : 128 ≤ m
    · have ho := or128 m
      have HPG := hide (Vi.put_ge h)
      generalize UInt8.ofNat (m % 128 + 128) = c at *
      go_wp2_with (at_builtin; refine wpList_app (w := wr.alloc _) rfl (.tmp 21) (.tmp 25) rfl w.heap.size _ (l ++ pre) [c] rfl (HO.out.alloc _) _ 1 1 rfl rfl (Reads.made _ _ _ _ _ _ rfl rfl) (by simp; omega) (by have := HZ.out; simp; omega) ?_; intro v w3 hown3 hg3 hv3)
      go_roundw
      case rel =>
        refine ⟨m / 128, pre ++ [c], by go_num, ?_, ?_, ?_⟩
        · rw [← List.append_assoc]; exact hown3
        · rw [List.append_assoc, List.singleton_append, ← HPG.out]; exact HP.out
        · exact (HB.out.alloc HZ.out _).grown hg3 (by have := HZ.out; simp; omega) (fun g hg => (HO.out.lt g hg).1)
      case measure => simp [intOf]; omega
    · have HC : Hid ((cells [UInt8.ofNat m]).toArray = #[.int .u8 m]) := by
        show (cells [UInt8.ofNat m]).toArray = #[.int .u8 m]
        simp only [cells, List.map_cons, List.map_nil, byteV, ← mod256n]
        rw [show (m : Int) % 256 = m by omega]
      have HPL := hide (Vi.put_lt (show m < 128 by omega))
      generalize UInt8.ofNat m = c at *
      go_wp2_with (at_builtin; refine wpList_app (w := wr.alloc _) rfl (.tmp 27) (.tmp 30) rfl w.heap.size _ (l ++ pre) [c] rfl (HO.out.alloc _) _ 1 1 rfl rfl (Reads.made _ _ _ _ _ _ rfl HC.out) (by simp; omega) (by have := HZ.out; simp; omega) ?_; intro v w3 hown3 hg3 hv3)
      go_ret
      refine ⟨v, rfl, ?_, ?_⟩
      · rw [← HP.out, HPL.out, ← List.append_assoc]; exact hown3
      · exact (HB.out.alloc HZ.out _).grown hg3 (by have := HZ.out; simp; omega) (fun g hg => (HO.out.lt g hg).1)
end Go.Proofs.YtcmgppacipdnaaaGreatDoor

namespace Go.Proofs.YtcmgppacipdnaaaGreatDoor
open Go.RowKit

theorem zig_pos (n : Int) (h0 : 0 ≤ n) (h2 : n ≤ 9223372036854775807) : bits .xor .u64 (n * 2) (n / 9223372036854775808) = (Vi.zz n : Nat) := by
  rw [show n / 9223372036854775808 = 0 by omega, show n * 2 = ((2 * n.toNat : Nat) : Int) by omega, xor_nil _ (by omega)]
  unfold Vi.zz; rw [if_pos h0]; omega
theorem zig_neg (n : Int) (h1 : -9223372036854775808 ≤ n) (h0 : ¬ 0 ≤ n) : bits .xor .u64 (IntKind.u64.wrap (IntKind.u64.wrap n * 2)) (IntKind.u64.wrap (n / 9223372036854775808)) = (Vi.zz n : Nat) := by
  rw [IntKind.wrap_u64, IntKind.wrap_u64, IntKind.wrap_u64, show n / 9223372036854775808 % 18446744073709551616 = 18446744073709551615 by omega,
    show n % 18446744073709551616 * 2 % 18446744073709551616 = ((18446744073709551616 - 2 * (-n).toNat : Nat) : Int) by omega, ofInt_all _ (by omega)]
  unfold Vi.zz; rw [if_neg h0]; omega

set_option maxRecDepth 100000 in
set_option maxHeartbeats 400000 in
theorem putInt_any (A : Option Addr) (cap : Nat) (l : List UInt8) (n : Int) (w : World) (h1 : -9223372036854775808 ≤ n) (h2 : n ≤ 9223372036854775807) (hl : l.length ≤ 1000000) (hr : Reads w A l) :
    Calls Tryz.prog 134 #[.slice A l.length cap, .int .i64 n] w fun e w' => ∃ v, e = .returned v ∧ Own w' w.heap.size v (l ++ Vi.put (Vi.zz n)) ∧ Below w.heap.size w w' := by
  have HP := hide (put_any A cap l (Vi.zz n) w (Vi.zz_lt n h1 h2) hl hr)
  clear hr
  by_cases h0 : 0 ≤ n
  · have HZ := hide (zig_pos n h0 h2)
    go_enter Tryz.func134, Tryz.ntmps134
    go_wp2_with fail
    rw [HZ.out]
    refine HP.out.mono ?_
    rintro e w1 ⟨v, rfl, ho, hb⟩
    go_wp2_with fail
    go_ret
    exact ⟨v, rfl, ho, hb⟩
  · have HZ := hide (zig_neg n h1 h0)
    go_enter Tryz.func134, Tryz.ntmps134
    go_wp2_with fail
    rw [HZ.out]
    refine HP.out.mono ?_
    rintro e w1 ⟨v, rfl, ho, hb⟩
    go_wp2_with fail
    go_ret
    exact ⟨v, rfl, ho, hb⟩
end Go.Proofs.YtcmgppacipdnaaaGreatDoor

namespace Go.Proofs.YtcmgppacipdnaaaGreatDoor
open Go.RowKit

theorem put_at (A : Option Addr) (cap k : Nat) (l : List UInt8) (n : Nat) (w : World) (hk : l.length = k) (hn : n < 18446744073709551616) (hl : k ≤ 1000000) (hr : Reads w A l) :
    Calls Tryz.prog 133 #[.slice A k cap, .int .u64 n] w fun e w' => ∃ v, e = .returned v ∧ Own w' w.heap.size v (l ++ Vi.put n) ∧ Below w.heap.size w w' := by
  subst hk; exact put_any A cap l n w hn hl hr
theorem putInt_at (A : Option Addr) (cap k : Nat) (l : List UInt8) (n : Int) (w : World) (hk : l.length = k) (h1 : -9223372036854775808 ≤ n) (h2 : n ≤ 9223372036854775807) (hl : k ≤ 1000000) (hr : Reads w A l) :
    Calls Tryz.prog 134 #[.slice A k cap, .int .i64 n] w fun e w' => ∃ v, e = .returned v ∧ Own w' w.heap.size v (l ++ Vi.put (Vi.zz n)) ∧ Below w.heap.size w w' := by
  subst hk; exact putInt_any A cap l n w h1 h2 hl hr
/-- Put of nothing ahead. -/
theorem put_nil (n : Nat) (w : World) (hn : n < 18446744073709551616) :
    Calls Tryz.prog 133 #[.slice none 0 0, .int .u64 n] w fun e w' => ∃ A c, e = .returned (.slice A (Vi.size n) c) ∧ Own w' w.heap.size (.slice A (Vi.size n) c) (Vi.put n) ∧ Arg w' A c (Vi.put n) ∧ Below w.heap.size w w' :=
  (put_at none 0 0 [] n w rfl hn (by omega) (.inl rfl)).mono fun e w' ⟨v, he, ho, hb⟩ => by
    obtain ⟨A, c, hv, hr⟩ := ho.arg
    subst hv
    exact ⟨A, c, he, ho, hr, hb⟩
theorem putInt_nil (n : Int) (w : World) (h1 : -9223372036854775808 ≤ n) (h2 : n ≤ 9223372036854775807) :
    Calls Tryz.prog 134 #[.slice none 0 0, .int .i64 n] w fun e w' => ∃ A c, e = .returned (.slice A (Vi.size (Vi.zz n)) c) ∧ Own w' w.heap.size (.slice A (Vi.size (Vi.zz n)) c) (Vi.put (Vi.zz n)) ∧ Arg w' A c (Vi.put (Vi.zz n)) ∧ Below w.heap.size w w' :=
  (putInt_at none 0 0 [] n w rfl h1 h2 (by omega) (.inl rfl)).mono fun e w' ⟨v, he, ho, hb⟩ => by
    obtain ⟨A, c, hv, hr⟩ := ho.arg
    subst hv
    exact ⟨A, c, he, ho, hr, hb⟩

end Go.Proofs.YtcmgppacipdnaaaGreatDoor

namespace Go.Proofs.YtcmgppacipdnaaaGreatDoor
open Go.RowKit

/-- Where a record lies. -/
structure RecAt (w : World) (b off : Nat) (r : Rc.Rec) : Prop where
  ex : ∃ Ak ck Av cv, w.cell? ⟨b, off, none⟩ = some (.int .i64 r.t) ∧ w.cell? ⟨b, off + 1, none⟩ = some (.slice Ak r.k.length ck) ∧ w.cell? ⟨b, off + 2, none⟩ = some (.slice Av r.v.length cv) ∧ Arg w Ak ck r.k ∧ Arg w Av cv r.v
/-- A slice that reads as these records. -/
def Recs (w : World) (A : Option Addr) (rs : List Rc.Rec) : Prop :=
  rs = [] ∨ ∃ b off, A = some ⟨b, off, none⟩ ∧ b < w.heap.size ∧ ∀ k, k < rs.length → RecAt w b (off + k * 3) (rs.getD k default)
theorem RecAt.below {w w' : World} {C b off : Nat} {r : Rc.Rec} (h : RecAt w b off r) (hb : Below C w w') (hC : w.heap.size ≤ C) (hl : b < w.heap.size) : RecAt w' b off r := by
  obtain ⟨Ak, ck, Av, cv, h0, h1, h2, ha, hv⟩ := h.ex
  exact ⟨Ak, ck, Av, cv, (hb.cell (p := ⟨b, off, none⟩) (by show b < C; omega)).trans h0, (hb.cell (p := ⟨b, off + 1, none⟩) (by show b < C; omega)).trans h1, (hb.cell (p := ⟨b, off + 2, none⟩) (by show b < C; omega)).trans h2, ha.below hb hC, hv.below hb hC⟩
theorem Recs.below {w w' : World} {C : Nat} {A : Option Addr} {rs : List Rc.Rec} (h : Recs w A rs) (hb : Below C w w') (hC : w.heap.size ≤ C) : Recs w' A rs := by
  rcases h with h | ⟨b, off, e, hl, hc⟩
  · exact .inl h
  · exact .inr ⟨b, off, e, Nat.lt_of_lt_of_le hl hb.size, fun k hk => (hc k hk).below hb hC hl⟩
abbrev batV (base epoch : Int) (A : Option Addr) (n cap : Nat) : Value := .agg #[.int .i64 base, .int .i64 epoch, .slice A n cap]
/-- A batch as a value, and what it is. -/
structure IsBat (w : World) (A : Option Addr) (cap : Nat) (b : Rc.Bat) : Prop where
  le : b.recs.length ≤ cap
  max : cap ≤ 9223372036854775807
  recs : Recs w A b.recs
  base : -9223372036854775808 ≤ b.base ∧ b.base ≤ 9223372036854775807
  epoch : -9223372036854775808 ≤ b.epoch ∧ b.epoch ≤ 9223372036854775807
theorem IsBat.below {w w' : World} {C : Nat} {A : Option Addr} {cap : Nat} {b : Rc.Bat} (h : IsBat w A cap b) (hb : Below C w w') (hC : w.heap.size ≤ C) : IsBat w' A cap b := ⟨h.le, h.max, h.recs.below hb hC, h.base, h.epoch⟩

theorem within_any (n a b : Int) (w : World) :
    Calls Tryz.prog 104 #[.int .i64 n, .int .i64 a, .int .i64 b] w fun e w' => e = .returned (.bool (decide (a ≤ n ∧ n ≤ b))) ∧ w = w' := by
  by_cases h1 : a ≤ n
  · have hd : decide (a ≤ n) = true := by simp [h1]
    have he : decide (a ≤ n ∧ n ≤ b) = decide (n ≤ b) := by simp [h1]
    rw [he]
    clear he h1
    go_enter Tryz.func104, Tryz.ntmps104
    go_wp2_with fail
    go_ret
    exact ⟨rfl, rfl⟩
  · have hd : decide (a ≤ n) = false := by simp [h1]
    have he : decide (a ≤ n ∧ n ≤ b) = false := by simp [h1]
    rw [he]
    clear he h1
    go_enter Tryz.func104, Tryz.ntmps104
    go_wp2_with fail
    go_ret
    exact ⟨rfl, rfl⟩

theorem next_bat (base epoch : Int) (A : Option Addr) (n cap : Nat) (w : World) (h1 : -9223372036854775808 ≤ base + n) (h2 : base + n ≤ 9223372036854775807) :
    Calls Tryz.prog 105 #[batV base epoch A n cap] w fun e w' => e = .returned (.int .i64 (base + n)) ∧ Below w.heap.size w w' := by
  go_enter Tryz.func105, Tryz.ntmps105
  go_wp2_with fail
  go_ret
  exact ⟨rfl, balloc (Below.refl _ _) _⟩

/-- From w to w' nothing old has turned but the row that v lies in; v' lies there too, or in a new one. -/
structure Grown (w w' : World) (v v' : Value) : Prop where
  g : w.grownBy w' v.ownBlock
  o : v'.ownBlock = v.ownBlock ∨ ∃ k, v'.ownBlock = some k ∧ w.heap.size ≤ k
theorem Grown.refl (w : World) (v : Value) : Grown w w v v := ⟨World.grownBy.refl w _, .inl rfl⟩
theorem Grown.size {w w' : World} {v v' : Value} (h : Grown w w' v v') : w.heap.size ≤ w'.heap.size := h.g.size
theorem Grown.of_below {w w' : World} (h : Below w.heap.size w w') (v : Value) : Grown w w' v v := ⟨⟨h.os, h.tape, h.output, h.size, fun k hk _ => h.block k hk⟩, .inl rfl⟩
theorem Grown.trans {a b c : World} {u v x : Value} (h : Grown a b u v) (k : Grown b c v x) : Grown a c u x := by
  refine ⟨⟨k.g.os.trans h.g.os, k.g.tape.trans h.g.tape, k.g.output.trans h.g.output, Nat.le_trans h.g.size k.g.size, fun i hi hne => (k.g.block i (Nat.lt_of_lt_of_le hi h.g.size) ?_).trans (h.g.block i hi hne)⟩, ?_⟩
  · rcases h.o with e | ⟨j, e, hj⟩
    · rw [e]; exact hne
    · rw [e]; intro e'; injection e' with e'; omega
  · rcases k.o with e | ⟨j, e, hj⟩
    · rcases h.o with e' | ⟨j, e', hj⟩
      · exact .inl (e.trans e')
      · exact .inr ⟨j, e.trans e', hj⟩
    · exact .inr ⟨j, e, Nat.le_trans h.g.size hj⟩
theorem Grown.app {w w' : World} {v v' : Value} (g : w.grownBy w' v.ownBlock) (o : v'.ownBlock = v.ownBlock ∨ v'.ownBlock = some w.heap.size) : Grown w w' v v' :=
  ⟨g, o.imp id fun e => ⟨_, e, Nat.le_refl _⟩⟩
theorem Grown.below {w w' : World} {v v' : Value} {base C : Nat} {l : List UInt8} (h : Grown w w' v v') (ho : Own w base v l) (hC : C ≤ base) (hb : C ≤ w.heap.size) : Below C w w' :=
  (Below.refl C w).grown h.g hb fun k hk => Nat.le_trans hC (ho.lt k hk).1
theorem Grown.cell {w w' : World} {v v' : Value} (h : Grown w w' v v') {b o : Nat} (hb : b < w.heap.size) (hne : v.ownBlock ≠ some b) : w'.cell? ⟨b, o, none⟩ = w.cell? ⟨b, o, none⟩ := by
  have := h.g.block b hb (fun e => hne e.symm)
  simp [World.cell?, this]
theorem Grown.keep {w w' : World} {v v' : Value} (h : Grown w w' v v') {b : Nat} (hb : b < w.heap.size) (hne : v.ownBlock ≠ some b) : v'.ownBlock ≠ some b := by
  rcases h.o with e | ⟨j, e, hj⟩
  · rw [e]; exact hne
  · rw [e]; intro e'; injection e' with e'; omega

set_option maxRecDepth 100000 in
/-- fixed, from nothing or what is the call's own on. -/
theorem fix_any (base : Nat) (v : Value) (l : List UInt8) (n k : Nat) (w : World) (hn : n < 18446744073709551616) (hk : k ≤ 8) (hl : l.length ≤ 1000000) (ho : Own w base v l) (hbase : base ≤ w.heap.size) :
    Calls Tryz.prog 143 #[v, .int .u64 n, .int .i64 k] w fun e w' => ∃ v', e = .returned v' ∧ Own w' base v' (l ++ Rc.le k n) ∧ Grown w w' v v' := by
  have HO := hide ho
  clear ho
  go_enter Tryz.func143, Tryz.ntmps143
  go_wp2_with fail
  go_loopw [0, 1, 8] (fun u m i wr => ∃ j : Nat, j ≤ k ∧ i = .int .i64 j ∧ m = .int .u64 ((n / 256 ^ j : Nat) : Int) ∧ Own wr base u (l ++ Rc.le j n) ∧ Grown w wr v u) (fun _ _ i _ => k - (intOf i).toNat)
  case atStart => exact ⟨0, Nat.zero_le _, rfl, by simp, by simpa [Rc.le] using HO.out, Grown.refl _ _⟩
  case round =>
    obtain ⟨j, hj, rfl, rfl, ho, hb⟩ := hrel
    by_cases hlt : j < k
    · have hm : n / 256 ^ j < 18446744073709551616 := Nat.lt_of_le_of_lt (Nat.div_le_self _ _) hn
      have HS : Hid (l ++ Rc.le (j + 1) n = (l ++ Rc.le j n) ++ [UInt8.ofNat (n / 256 ^ j)]) := by
        show _ = _
        rw [Rc.le_snoc, List.append_assoc]
      have HD : Hid (n / 256 ^ (j + 1) = n / 256 ^ j / 256) := by
        show _ = _
        rw [Nat.pow_succ, Nat.div_div_eq_div_mul]
      have hll : (l ++ Rc.le j n).length ≤ 1000008 := by rw [List.length_append, Rc.le_len]; omega
      have HOJ := hide ho
      have HBJ := hide hb
      have HZ : Hid (w.heap.size ≤ wr.heap.size) := hide hb.size
      clear ho hb
      have hmod := mod256n (n / 256 ^ j)
      generalize n / 256 ^ j = m at *
      generalize l ++ Rc.le j n = pre at *
      generalize UInt8.ofNat m = c at *
      go_wp2_with (at_builtin; refine wpList_app (w := wr.alloc _) rfl (.tmp 10) (.tmp 13) rfl base _ pre [c] rfl (HOJ.out.alloc _) _ 1 1 rfl rfl (Reads.made _ _ _ _ _ _ rfl rfl) (by simp; omega) (by have := HZ.out; simp; omega) ?_; intro v3 w3 hown3 hg3 hv3)
      go_roundw
      case rel =>
        refine ⟨j + 1, by omega, by go_num, ?_, ?_, ?_⟩
        · rw [HD.out]; go_num
        · rw [HS.out]; exact hown3
        · exact HBJ.out.trans ((Grown.of_below (balloc (Below.refl _ _) _) _).trans (Grown.app hg3 hv3))
      case measure => simp [intOf]; omega
    · obtain rfl : j = k := by omega
      go_wp2_with fail
      go_ret
      exact ⟨_, rfl, ho, hb⟩
end Go.Proofs.YtcmgppacipdnaaaGreatDoor
