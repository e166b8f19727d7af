/-
  A batch's records in memory; the walks through rec's small helpers: within, Next, fixed, text.
-/
import Derived.Test.YtomnkgppldgpkaaDoorRc
import Derived.Test.YtomnkgppldgpkaaDoorVFirst
import Derived.Test.YtomnkgppldgpkaaDoorOwnArg
import Derived.Test.YtomnkgppldgpkaaDoorErrors
namespace Go.Proofs.YtomnkgppldgpkaaDoor
open Go.RowKit

/-- Where a record lies. -/
structure RecAt (w : World) (b off : Nat) (r : Rc.Rec) : Prop where
  ex : ∃ Ak ck Av cv, w.cell? ⟨b, off, none⟩ = some (.int .i64 r.t) ∧ w.cell? ⟨b, off + 1, none⟩ = some (.slice Ak r.k.length ck) ∧ w.cell? ⟨b, off + 2, none⟩ = some (.slice Av r.v.length cv) ∧ Arg w Ak ck r.k ∧ Arg w Av cv r.v
/-- A slice that reads as these records. -/
def Recs (w : World) (A : Option Addr) (rs : List Rc.Rec) : Prop :=
  rs = [] ∨ ∃ b off, A = some ⟨b, off, none⟩ ∧ b < w.heap.size ∧ ∀ k, k < rs.length → RecAt w b (off + k * 3) (rs.getD k default)
theorem RecAt.below {w w' : World} {C b off : Nat} {r : Rc.Rec} (h : RecAt w b off r) (hb : Below C w w') (hC : w.heap.size ≤ C) (hl : b < w.heap.size) : RecAt w' b off r := by
  obtain ⟨Ak, ck, Av, cv, h0, h1, h2, ha, hv⟩ := h.ex
  exact ⟨Ak, ck, Av, cv, (hb.cell (p := ⟨b, off, none⟩) (by show b < C; omega)).trans h0, (hb.cell (p := ⟨b, off + 1, none⟩) (by show b < C; omega)).trans h1, (hb.cell (p := ⟨b, off + 2, none⟩) (by show b < C; omega)).trans h2, ha.below hb hC, hv.below hb hC⟩
theorem Recs.below {w w' : World} {C : Nat} {A : Option Addr} {rs : List Rc.Rec} (h : Recs w A rs) (hb : Below C w w') (hC : w.heap.size ≤ C) : Recs w' A rs := by
  rcases h with h | ⟨b, off, e, hl, hc⟩
  · exact .inl h
  · exact .inr ⟨b, off, e, Nat.lt_of_lt_of_le hl hb.size, fun k hk => (hc k hk).below hb hC hl⟩
abbrev batV (base epoch : Int) (A : Option Addr) (n cap : Nat) : Value := .agg #[.int .i64 base, .int .i64 epoch, .slice A n cap]
/-- A batch as a value, and what it is. -/
structure IsBat (w : World) (A : Option Addr) (cap : Nat) (b : Rc.Bat) : Prop where
  le : b.recs.length ≤ cap
  max : cap ≤ 9223372036854775807
  recs : Recs w A b.recs
  base : -9223372036854775808 ≤ b.base ∧ b.base ≤ 9223372036854775807
  epoch : -9223372036854775808 ≤ b.epoch ∧ b.epoch ≤ 9223372036854775807
theorem IsBat.below {w w' : World} {C : Nat} {A : Option Addr} {cap : Nat} {b : Rc.Bat} (h : IsBat w A cap b) (hb : Below C w w') (hC : w.heap.size ≤ C) : IsBat w' A cap b := ⟨h.le, h.max, h.recs.below hb hC, h.base, h.epoch⟩

theorem within_any (n a b : Int) (w : World) :
    Calls Tryd.prog 57 #[.int .i64 n, .int .i64 a, .int .i64 b] w fun e w' => e = .returned (.bool (decide (a ≤ n ∧ n ≤ b))) ∧ w = w' := by
  by_cases h1 : a ≤ n
  · have hd : decide (a ≤ n) = true := by simp [h1]
    have he : decide (a ≤ n ∧ n ≤ b) = decide (n ≤ b) := by simp [h1]
    rw [he]
    clear he h1
    go_enter Tryd.func57, Tryd.ntmps57
    go_wp2_with fail
    go_ret
    exact ⟨rfl, rfl⟩
  · have hd : decide (a ≤ n) = false := by simp [h1]
    have he : decide (a ≤ n ∧ n ≤ b) = false := by simp [h1]
    rw [he]
    clear he h1
    go_enter Tryd.func57, Tryd.ntmps57
    go_wp2_with fail
    go_ret
    exact ⟨rfl, rfl⟩

theorem next_bat (base epoch : Int) (A : Option Addr) (n cap : Nat) (w : World) (h1 : -9223372036854775808 ≤ base + n) (h2 : base + n ≤ 9223372036854775807) :
    Calls Tryd.prog 58 #[batV base epoch A n cap] w fun e w' => e = .returned (.int .i64 (base + n)) ∧ Below w.heap.size w w' := by
  go_enter Tryd.func58, Tryd.ntmps58
  go_wp2_with fail
  go_ret
  exact ⟨rfl, balloc (Below.refl _ _) _⟩

/-- From w to w' nothing old has turned but the row that v lies in; v' lies there too, or in a new one. -/
structure Grown (w w' : World) (v v' : Value) : Prop where
  g : w.grownBy w' v.ownBlock
  o : v'.ownBlock = v.ownBlock ∨ ∃ k, v'.ownBlock = some k ∧ w.heap.size ≤ k
theorem Grown.refl (w : World) (v : Value) : Grown w w v v := ⟨World.grownBy.refl w _, .inl rfl⟩
theorem Grown.size {w w' : World} {v v' : Value} (h : Grown w w' v v') : w.heap.size ≤ w'.heap.size := h.g.size
theorem Grown.of_below {w w' : World} (h : Below w.heap.size w w') (v : Value) : Grown w w' v v := ⟨⟨h.os, h.tape, h.output, h.size, fun k hk _ => h.block k hk⟩, .inl rfl⟩
theorem Grown.trans {a b c : World} {u v x : Value} (h : Grown a b u v) (k : Grown b c v x) : Grown a c u x := by
  refine ⟨⟨k.g.os.trans h.g.os, k.g.tape.trans h.g.tape, k.g.output.trans h.g.output, Nat.le_trans h.g.size k.g.size, fun i hi hne => (k.g.block i (Nat.lt_of_lt_of_le hi h.g.size) ?_).trans (h.g.block i hi hne)⟩, ?_⟩
  · rcases h.o with e | ⟨j, e, hj⟩
    · rw [e]; exact hne
    · rw [e]; intro e'; injection e' with e'; omega
  · rcases k.o with e | ⟨j, e, hj⟩
    · rcases h.o with e' | ⟨j, e', hj⟩
      · exact .inl (e.trans e')
      · exact .inr ⟨j, e.trans e', hj⟩
    · exact .inr ⟨j, e, Nat.le_trans h.g.size hj⟩
theorem Grown.app {w w' : World} {v v' : Value} (g : w.grownBy w' v.ownBlock) (o : v'.ownBlock = v.ownBlock ∨ v'.ownBlock = some w.heap.size) : Grown w w' v v' :=
  ⟨g, o.imp id fun e => ⟨_, e, Nat.le_refl _⟩⟩
theorem Grown.below {w w' : World} {v v' : Value} {base C : Nat} {l : List UInt8} (h : Grown w w' v v') (ho : Own w base v l) (hC : C ≤ base) (hb : C ≤ w.heap.size) : Below C w w' :=
  (Below.refl C w).grown h.g hb fun k hk => Nat.le_trans hC (ho.lt k hk).1
theorem Grown.cell {w w' : World} {v v' : Value} (h : Grown w w' v v') {b o : Nat} (hb : b < w.heap.size) (hne : v.ownBlock ≠ some b) : w'.cell? ⟨b, o, none⟩ = w.cell? ⟨b, o, none⟩ := by
  have := h.g.block b hb (fun e => hne e.symm)
  simp [World.cell?, this]
theorem Grown.keep {w w' : World} {v v' : Value} (h : Grown w w' v v') {b : Nat} (hb : b < w.heap.size) (hne : v.ownBlock ≠ some b) : v'.ownBlock ≠ some b := by
  rcases h.o with e | ⟨j, e, hj⟩
  · rw [e]; exact hne
  · rw [e]; intro e'; injection e' with e'; omega

set_option maxRecDepth 100000 in
/-- fixed, from nothing or what is the call's own on. -/
theorem fix_any (base : Nat) (v : Value) (l : List UInt8) (n k : Nat) (w : World) (hn : n < 18446744073709551616) (hk : k ≤ 8) (hl : l.length ≤ 1000000) (ho : Own w base v l) (hbase : base ≤ w.heap.size) :
    Calls Tryd.prog 36 #[v, .int .u64 n, .int .i64 k] w fun e w' => ∃ v', e = .returned v' ∧ Own w' base v' (l ++ Rc.le k n) ∧ Grown w w' v v' := by
  have HO := hide ho
  clear ho
  go_enter Tryd.func36, Tryd.ntmps36
  go_wp2_with fail
  go_loopw [0, 1, 8] (fun u m i wr => ∃ j : Nat, j ≤ k ∧ i = .int .i64 j ∧ m = .int .u64 ((n / 256 ^ j : Nat) : Int) ∧ Own wr base u (l ++ Rc.le j n) ∧ Grown w wr v u) (fun _ _ i _ => k - (intOf i).toNat)
  case atStart => exact ⟨0, Nat.zero_le _, rfl, by simp, by simpa [Rc.le] using HO.out, Grown.refl _ _⟩
  case round =>
    obtain ⟨j, hj, rfl, rfl, ho, hb⟩ := hrel
    by_cases hlt : j < k
    · have hm : n / 256 ^ j < 18446744073709551616 := Nat.lt_of_le_of_lt (Nat.div_le_self _ _) hn
      have HS : Hid (l ++ Rc.le (j + 1) n = (l ++ Rc.le j n) ++ [UInt8.ofNat (n / 256 ^ j)]) := by
        show _ = _
        rw [Rc.le_snoc, List.append_assoc]
      have HD : Hid (n / 256 ^ (j + 1) = n / 256 ^ j / 256) := by
        show _ = _
        rw [Nat.pow_succ, Nat.div_div_eq_div_mul]
      have hll : (l ++ Rc.le j n).length ≤ 1000008 := by rw [List.length_append, Rc.le_len]; omega
      have HOJ := hide ho
      have HBJ := hide hb
      have HZ : Hid (w.heap.size ≤ wr.heap.size) := hide hb.size
      clear ho hb
      have hmod := mod256n (n / 256 ^ j)
      generalize n / 256 ^ j = m at *
      generalize l ++ Rc.le j n = pre at *
      generalize UInt8.ofNat m = c at *
      go_wp2_with (at_builtin; refine wpList_app (w := wr.alloc _) rfl (.tmp 10) (.tmp 13) rfl base _ pre [c] rfl (HOJ.out.alloc _) _ 1 1 rfl rfl (Reads.made _ _ _ _ _ _ rfl rfl) (by simp; omega) (by have := HZ.out; simp; omega) ?_; intro v3 w3 hown3 hg3 hv3)
      go_roundw
      case rel =>
        refine ⟨j + 1, by omega, by go_num, ?_, ?_, ?_⟩
        · rw [HD.out]; go_num
        · rw [HS.out]; exact hown3
        · exact HBJ.out.trans ((Grown.of_below (balloc (Below.refl _ _) _) _).trans (Grown.app hg3 hv3))
      case measure => simp [intOf]; omega
    · obtain rfl : j = k := by omega
      go_wp2_with fail
      go_ret
      exact ⟨_, rfl, ho, hb⟩
end Go.Proofs.YtomnkgppldgpkaaDoor
