/-
  Errors with a place as plain data: what the statements' own helpers (Fault, Placed, Same) answer at a reader's error.
  The walk through VintBack: a number's bytes are read as it, whatever stands behind; cut off they end too early.
  The walk through VintSays: any number's bytes, and any bytes' number, are what the chapter says.
  The reference's own reader in memory: its five cells. The walks through its Fine and its fail.
  The walks through the reference's reader's Num and Int.
  The walk through the reference's reader's Bytes.
  The walks through the reference's Fixed, and its reader's.
-/
import Derived.Test.YtfdppggdgdnnaaaGreatDoorZ2
import Derived.Test.YtfdppggdgdnnaaaGreatDoorZ1
import Derived.Test.YtfdppggdgdnnaaaGreatDoorZ20
namespace Go.Proofs.YtfdppggdgdnnaaaGreatDoor
open Go.RowKit

abbrev faultV (c : Int) (b : Bool) (q : Int) : Value := .agg #[.int .i64 c, .bool b, .int .i64 q]

set_option maxRecDepth 100000 in
theorem placed_any (c q : Int) (w : World) (hc : c ≠ 0) :
    Calls Tryz.prog 128 #[.int .i64 c, .int .i64 q] w fun e w' => e = .returned (faultV c true q) ∧ Below w.heap.size w w' := by
  have h1 : (c == 0) = false := by simp [hc]
  clear hc
  go_enter Tryz.func128, Tryz.ntmps128
  go_wp2_with fail
  go_returns
  exact ⟨rfl, balloc (Below.refl _ _) _⟩

set_option maxRecDepth 100000 in
theorem sameFault_eq (c : Int) (b : Bool) (q : Int) (w : World) :
    Calls Tryz.prog 107 #[faultV c b q, faultV c b q] w fun e w' => e = .returned (.bool true) ∧ Below w.heap.size w w' := by
  have h1 : (c == c) = true := by simp
  have h2 : (q == q) = true := by simp
  unfold faultV
  go_enter Tryz.func107, Tryz.ntmps107
  go_wp2_with fail
  go_ret
  exact ⟨by simp, balloc (balloc (Below.refl _ _) _) _⟩

theorem is_at (h : Nat) (W : World) : (Instr.typeAssert (atV h) 35 173 true).run Tryz.prog W = .ok (.tuple #[.pointer (some ⟨h, 0, none⟩), .bool true]) W := by
  kernel_rfl

set_option maxRecDepth 100000 in
set_option maxHeartbeats 1000000 in
theorem fault_at (w : World) (p : Nat → Addr) (hs : Sents w p) (h q k : Nat) (hk : k < 19) (hh : h < w.heap.size) (h0 : w.cell? ⟨h, 0, none⟩ = some (.int .i64 q)) (h1 : w.cell? ⟨h, 1, none⟩ = some (errV (p k))) :
    Calls Tryz.prog 108 #[atV h] w fun e w' => e = .returned (faultV ((101 + k : Nat) : Int) true q) ∧ Below w.heap.size w w' := by
  have k1 := eqn_nil 173 (.pointer (some ⟨h, 0, none⟩))
  have k2 := is_at h
  have k3 := eqn_nil 258 (.pointer (some (p k)))
  have HSE := hideE (fun W hb => sentinel_any W p (hs.below hb) k hk)
  have HPL := hideE (fun W => placed_any ((101 + k : Nat) : Int) q W (by omega))
  have hcode : ((101 + k : Nat) : Int) ≠ 0 := by omega
  clear hs hcode
  unfold errV atV at *
  generalize ((101 + k : Nat) : Int) = code at *
  go_enter Tryz.func108, Tryz.ntmps108
  go_upto_region 8 with fail
  have hb0 : Below w.heap.size w (w.alloc (.cells #[.int .i64 0, .bool false, .int .i64 0] 117)) := balloc (Below.refl _ _) _
  have HB0 := hideE hb0
  clear hb0 k1 k2
  refine wp_region_made [28, 29, 30, 31, 32, 33, 34, 35, 36, 37] (fun d => match d with
    | 28 => .is (.pointer (some ⟨h, 0, none⟩)) | 29 => .is (.pointer (some ⟨h, 0, none⟩)) | 30 => .is (.pointer (some ⟨h, 1, none⟩)) | 31 => .is (.iface 258 (.pointer (some (p k)))) | 32 => .is (.int .i64 code)
    | 33 => .is (.pointer (some ⟨h, 0, none⟩)) | 34 => .is (.pointer (some ⟨h, 0, none⟩)) | 35 => .is (.pointer (some ⟨h, 0, none⟩)) | 36 => .is (.int .i64 q) | 37 => .is (faultV code true q)
    | _ => .any) _ (by kernel_rfl) (by kernel_rfl) rfl (by kernel_rfl) ?_ ?_
  · simp only [List.size_toArray, List.length_cons, List.length_nil, List.take_succ_cons, List.take_zero, StepsOk]
    refine ⟨?_, ?_, ?_, ?_, ?_, ?_, ?_, ?_, ?_, ?_, trivial⟩
    all_goals
      intro ev w2 hb hev hd
      have ev3 : ev (.tmp 3) = .pointer (some ⟨h, 0, none⟩) := hev _ (by simp)
      have evf : ∀ f, ev (.func f) = .func (.func f) #[] #[] := fun f => hev _ (by simp)
      have hbw := HB0.out.trans (hb.mono HB0.out.size)
      have d0 := (hbw.cell (p := ⟨h, 0, none⟩) hh).trans h0
      have d1 := (hbw.cell (p := ⟨h, 1, none⟩) hh).trans h1
      have HB2 := hideE hbw
      clear hev hb hbw
      simp [DepsOk, Known.is] at hd
      try simp [OpRuns, execOp, go_sem, Known.is, Below.refl, *]
    · exact HSE.out w2 HB2.out
    · exact HPL.out w2
  · intro f w2 hb hf
    have e37 : f 37 = faultV code true q := hf 37 (by simp)
    obtain ⟨c0, c1, c2, f0, f1, f2, hb'⟩ := blk3 hb
    have HB2 := hideE hb'
    have hz : w.heap.size < w2.heap.size := by have := hb.size; simp at this; omega
    clear hf hb hb'
    obtain ⟨s0, s1, s2⟩ := set3 (.int .i64 code) (.bool true) (.int .i64 q) c0 c1 c2
    simp only [puts]
    unfold faultV at e37
    go_wp2_with fail
    refine bodyPost_ret (v := faultV code true q) (by simp [results, Tryz.results108, go_sem, s0, s1, s2]) rfl ⟨rfl, bset (bset (bset HB2.out _ _) _ _) _ _⟩

/-- A plain reader's fault. -/
def fltV (s : Vi.Rs) : Value := faultV (s.code : Int) s.pos.isSome ((s.pos.getD 0 : Nat) : Int)
theorem fault_err (w : World) (p : Nat → Addr) (hs : Sents w p) (g : Nat) (E : Value) (s : Vi.Rs) (he : ErrIs w p g E s) :
    Calls Tryz.prog 108 #[E] w fun e w' => e = .returned (fltV s) ∧ Below w.heap.size w w' := by
  rcases he with ⟨h1, h2, rfl⟩ | ⟨h1, h2, rfl⟩ | ⟨h, q, h1, h2, rfl, h3, h4, h5, h6⟩
  · refine (fault_nil w).mono fun e w' ⟨h, hb⟩ => ⟨?_, hb⟩
    rw [h]; unfold fltV; rw [h1, h2]; rfl
  · refine (fault_sent w p hs 0 (by omega)).mono fun e w' ⟨h, hb⟩ => ⟨?_, hb⟩
    rw [h]; unfold fltV; rw [h1, h2]; rfl
  · refine (fault_at w p hs h q (s.code - 101) (by omega) h4 h5 h6).mono fun e w' ⟨h, hb⟩ => ⟨?_, hb⟩
    rw [h]; unfold fltV; rw [h2, show 101 + (s.code - 101) = s.code by omega]; rfl

set_option maxRecDepth 100000 in
/-- 'Same', of what 'Fault' answers. -/
theorem same_of (v : Value) (c : Int) (b : Bool) (q : Int) (w : World) (hf : ∀ W, Below w.heap.size w W → Calls Tryz.prog 108 #[v] W fun e w' => e = .returned (faultV c b q) ∧ Below W.heap.size W w') :
    Calls Tryz.prog 68 #[v, faultV c b q] w fun e w' => e = .returned (.bool true) ∧ Below w.heap.size w w' := by
  have HF := hideE hf
  clear hf
  go_enter Tryz.func68, Tryz.ntmps68
  go_wp2_with fail
  refine wp_region_made [5, 6, 7, 8] (fun d => match d with | 5 => .is v | 6 => .is (faultV c b q) | 7 => .is (faultV c b q) | 8 => .is (.bool true) | _ => .any) _ (by kernel_rfl) (by kernel_rfl) rfl (by kernel_rfl) ?_ ?_
  · simp only [List.size_toArray, List.length_cons, List.length_nil, List.take_succ_cons, List.take_zero, StepsOk]
    refine ⟨?_, ?_, ?_, ?_, trivial⟩
    all_goals
      intro ev w2 hb hev hd
      have ev0 : ev (.tmp 0) = v := hev _ (by simp)
      have ev3 : ev (.tmp 3) = .pointer (some ⟨w.heap.size, 0, none⟩) := hev _ (by simp)
      have evf : ∀ f, ev (.func f) = .func (.func f) #[] #[] := fun f => hev _ (by simp)
      obtain ⟨c0, c1, c2, -, -, -, hb'⟩ := blk3 hb
      have HB' := hideE hb'
      clear hev hb hb'
      simp [DepsOk, Known.is] at hd
      try simp [OpRuns, execOp, go_sem, Known.is, Below.refl, *]
    · exact HF.out _ HB'.out
    · exact sameFault_eq c b q w2
  · intro f w2 hb hf
    obtain ⟨c0, c1, c2, -, -, -, hb'⟩ := blk3 hb
    have HB' := hideE hb'
    have e8 : f 8 = .bool true := hf 8 (by simp)
    clear hf hb hb' c0 c1 c2
    simp only [puts]
    go_wp2_with fail
    go_ret
    exact ⟨rfl, HB'.out⟩
theorem same_err (w : World) (p : Nat → Addr) (hs : Sents w p) (g : Nat) (E : Value) (s : Vi.Rs) (he : ErrIs w p g E s) :
    Calls Tryz.prog 68 #[E, fltV s] w fun e w' => e = .returned (.bool true) ∧ Below w.heap.size w w' :=
  same_of E _ _ _ w fun W hb => fault_err W p (hs.below hb) g E s (he.but (But.of_below hb))
end Go.Proofs.YtfdppggdgdnnaaaGreatDoor

namespace Go.Proofs.YtfdppggdgdnnaaaGreatDoor
open Go.RowKit

end Go.Proofs.YtfdppggdgdnnaaaGreatDoor

namespace Go.Proofs.YtfdppggdgdnnaaaGreatDoor
open Go.RowKit

theorem refGet_at (A : Option Addr) (cap n : Nat) (l : List UInt8) (w : World) (a k c : Nat) (hn : l.length = n) (hg : Vi.get 0 0 l = (a, k, c)) (hl : n ≤ 1000000) (hr : Reads w A l) :
    Calls Tryz.prog 179 #[.slice A n cap] w fun e w' => e = .returned (.tuple #[.int .u64 a, .int .i64 k, .int .i64 c]) ∧ w = w' := by
  subst hn
  have h := refGet_any A cap l w hl hr
  rw [hg] at h; exact h
theorem refGetInt_at (A : Option Addr) (cap n : Nat) (l : List UInt8) (w : World) (a : Int) (k c : Nat) (hn : l.length = n) (hg : (Vi.unzz (Vi.get 0 0 l).1, (Vi.get 0 0 l).2) = (a, k, c)) (hl : n ≤ 1000000) (hr : Reads w A l) :
    Calls Tryz.prog 155 #[.slice A n cap] w fun e w' => e = .returned (.tuple #[.int .i64 a, .int .i64 k, .int .i64 c]) ∧ w = w' := by
  subst hn
  have h := refGetInt_any A cap l w hl hr
  have e1 := congrArg Prod.fst hg
  have e2 := congrArg Prod.snd hg
  simp only at e1 e2
  rw [e1, e2] at h; exact h
theorem is_errOf (w : World) (p : Nat → Addr) (h : Sents w p) (c : Nat) (hc : c = 0 ∨ c = 101 ∨ c = 103) :
    Calls Tryz.prog 29 #[errOf p c, .int .i64 c] w fun e w' => e = .returned (.bool true) ∧ Below w.heap.size w w' := by
  rcases hc with rfl | rfl | rfl
  · exact (is_nil 0 w).mono fun e w' ⟨he, hb⟩ => ⟨by rw [he]; rfl, hb⟩
  · exact (is_sent w p h 0 (by omega) 101).mono fun e w' ⟨he, hb⟩ => ⟨by rw [he]; rfl, hb⟩
  · exact (is_sent w p h 2 (by omega) 103).mono fun e w' ⟨he, hb⟩ => ⟨by rw [he]; rfl, hb⟩

end Go.Proofs.YtfdppggdgdnnaaaGreatDoor

namespace Go.Proofs.YtfdppggdgdnnaaaGreatDoor
open Go.RowKit

theorem Arg.butx {g : Nat} {w w' : World} {A : Option Addr} {cap : Nat} {l : List UInt8} (h : Arg w A cap l) (hb : But g w w') (hne : ∀ b off, A = some ⟨b, off, none⟩ → l ≠ [] → b ≠ g) : Arg w' A cap l := by
  refine ⟨h.le, h.max, h.nil, ?_⟩
  rcases h.reads with h0 | ⟨b, off, e, hlt, hc⟩
  · exact .inl h0
  · by_cases hl : l = []
    · exact .inl hl
    · exact .inr ⟨b, off, e, Nat.lt_of_lt_of_le hlt hb.size, fun k hk => (hb.cell hlt (hne b off e hl)).trans (hc k hk)⟩
/-- The reference's reader of l (which lies at A) at block g, in the state s. -/
structure RRd (w : World) (A : Option Addr) (cap g : Nat) (l : List UInt8) (s : Vi.Rs) : Prop where
  lt : g < w.heap.size
  free : ∀ k, w.frozen? ⟨g, k, none⟩ = false
  ok : Vi.Ok l s
  c0 : w.cell? ⟨g, 0, none⟩ = some (.slice A l.length cap)
  c1 : w.cell? ⟨g, 1, none⟩ = some (.int .i64 (s.at_ : Int))
  c2 : w.cell? ⟨g, 2, none⟩ = some (.int .i64 (s.code : Int))
  c3 : w.cell? ⟨g, 3, none⟩ = some (.bool s.pos.isSome)
  c4 : w.cell? ⟨g, 4, none⟩ = some (.int .i64 ((s.pos.getD 0 : Nat) : Int))
  arg : Arg w A cap l
  ne : ∀ b off, A = some ⟨b, off, none⟩ → l ≠ [] → b ≠ g
  past : ∀ k, 5 ≤ k → w.cell? ⟨g, k, none⟩ = none
theorem RRd.below {w w' : World} {A : Option Addr} {cap g : Nat} {l : List UInt8} {s : Vi.Rs} (h : RRd w A cap g l s) (hb : Below w.heap.size w w') : RRd w' A cap g l s :=
  ⟨Nat.lt_of_lt_of_le h.lt hb.size, fun k => (hb.frozen (p := ⟨g, k, none⟩) h.lt).trans (h.free k), h.ok, (hb.cell (p := ⟨g, 0, none⟩) h.lt).trans h.c0, (hb.cell (p := ⟨g, 1, none⟩) h.lt).trans h.c1, (hb.cell (p := ⟨g, 2, none⟩) h.lt).trans h.c2, (hb.cell (p := ⟨g, 3, none⟩) h.lt).trans h.c3, (hb.cell (p := ⟨g, 4, none⟩) h.lt).trans h.c4, h.arg.below hb (Nat.le_refl _), h.ne, fun k hk => (hb.cell (p := ⟨g, k, none⟩) h.lt).trans (h.past k hk)⟩
/-- What another block's reader does leaves this one as it is. -/
theorem RRd.but {w w' : World} {A : Option Addr} {cap g g' : Nat} {l : List UInt8} {s : Vi.Rs} (h : RRd w A cap g l s) (hb : But g' w w') (hg : g ≠ g') (hne : ∀ b off, A = some ⟨b, off, none⟩ → l ≠ [] → b ≠ g') : RRd w' A cap g l s :=
  ⟨Nat.lt_of_lt_of_le h.lt hb.size, fun k => (hb.frozen h.lt hg).trans (h.free k), h.ok, (hb.cell h.lt hg).trans h.c0, (hb.cell h.lt hg).trans h.c1, (hb.cell h.lt hg).trans h.c2, (hb.cell h.lt hg).trans h.c3, (hb.cell h.lt hg).trans h.c4, h.arg.butx hb hne, h.ne, fun k hk => (hb.cell h.lt hg).trans (h.past k hk)⟩
theorem RRd.at_set {w : World} {A : Option Addr} {cap g : Nat} {l : List UInt8} {s : Vi.Rs} (h : RRd w A cap g l s) (k : Nat) (hk : s.at_ + k ≤ l.length) (hz : s.code = 0) : RRd (w.setCell ⟨g, 1, none⟩ (.int .i64 ((s.at_ : Int) + (k : Int)))) A cap g l (s.on k) := by
  have hb : But g w (w.setCell ⟨g, 1, none⟩ (.int .i64 ((s.at_ : Int) + (k : Int)))) := But.setCell _ _ _ _
  refine ⟨Nat.lt_of_lt_of_le h.lt hb.size, fun j => (World.frozen?_setCell _ _ _ _).trans (h.free j), ⟨hk, ?_⟩, ?_, World.cell?_setCell_same _ _ _ h.c1, ?_, ?_, ?_, h.arg.butx hb h.ne, h.ne, fun j hj => by rw [World.cell?_setCell_other _ _ _ _ (by intro e; injection e; omega)]; exact h.past j hj⟩
  · rcases h.ok.code with h | h | ⟨h, h'⟩
    · exact .inl h
    · exact .inr (.inl h)
    · omega
  · rw [World.cell?_setCell_other _ _ _ _ (by simp)]; exact h.c0
  · rw [World.cell?_setCell_other _ _ _ _ (by simp)]; exact h.c2
  · rw [World.cell?_setCell_other _ _ _ _ (by simp)]; exact h.c3
  · rw [World.cell?_setCell_other _ _ _ _ (by simp)]; exact h.c4
theorem RRd.bad_set {w : World} {A : Option Addr} {cap g : Nat} {l : List UInt8} {s s' : Vi.Rs} (h : RRd w A cap g l s) (hok : Vi.Ok l s') (hat : s'.at_ = s.at_) :
    RRd (((w.setCell ⟨g, 2, none⟩ (.int .i64 (s'.code : Int))).setCell ⟨g, 3, none⟩ (.bool s'.pos.isSome)).setCell ⟨g, 4, none⟩ (.int .i64 ((s'.pos.getD 0 : Nat) : Int))) A cap g l s' ∧
    But g w (((w.setCell ⟨g, 2, none⟩ (.int .i64 (s'.code : Int))).setCell ⟨g, 3, none⟩ (.bool s'.pos.isSome)).setCell ⟨g, 4, none⟩ (.int .i64 ((s'.pos.getD 0 : Nat) : Int))) := by
  have hb : But g w (((w.setCell ⟨g, 2, none⟩ (.int .i64 (s'.code : Int))).setCell ⟨g, 3, none⟩ (.bool s'.pos.isSome)).setCell ⟨g, 4, none⟩ (.int .i64 ((s'.pos.getD 0 : Nat) : Int))) := ((But.setCell _ _ _ _).trans (But.setCell _ _ _ _)).trans (But.setCell _ _ _ _)
  refine ⟨⟨Nat.lt_of_lt_of_le h.lt hb.size, fun j => ?_, hok, ?_, ?_, ?_, ?_, ?_, h.arg.butx hb h.ne, h.ne, fun j hj => by rw [World.cell?_setCell_other _ _ _ _ (by intro e; injection e; omega), World.cell?_setCell_other _ _ _ _ (by intro e; injection e; omega), World.cell?_setCell_other _ _ _ _ (by intro e; injection e; omega)]; exact h.past j hj⟩, hb⟩
  · rw [World.frozen?_setCell, World.frozen?_setCell, World.frozen?_setCell]; exact h.free j
  · rw [World.cell?_setCell_other _ _ _ _ (by simp), World.cell?_setCell_other _ _ _ _ (by simp), World.cell?_setCell_other _ _ _ _ (by simp)]; exact h.c0
  · rw [World.cell?_setCell_other _ _ _ _ (by simp), World.cell?_setCell_other _ _ _ _ (by simp), World.cell?_setCell_other _ _ _ _ (by simp), hat]; exact h.c1
  · rw [World.cell?_setCell_other _ _ _ _ (by simp), World.cell?_setCell_other _ _ _ _ (by simp)]; exact World.cell?_setCell_same _ _ _ h.c2
  · rw [World.cell?_setCell_other _ _ _ _ (by simp)]; exact World.cell?_setCell_same (u := .bool s.pos.isSome) _ _ _ (by rw [World.cell?_setCell_other _ _ _ _ (by simp)]; exact h.c3)
  · exact World.cell?_setCell_same (u := .int .i64 ((s.pos.getD 0 : Nat) : Int)) _ _ _ (by rw [World.cell?_setCell_other _ _ _ _ (by simp), World.cell?_setCell_other _ _ _ _ (by simp)]; exact h.c4)

/-- The program's reader stays as it is, whatever the reference's does. -/
theorem Rdr.butx {w w' : World} {p : Nat → Addr} {g gx cap : Nat} {A : Option Addr} {l : List UInt8} {s s' : Vi.Rs} (h : Rdr w p g l s) (hx : RRd w A cap gx l s') (hb : But gx w w') (hg : g ≠ gx) : Rdr w' p g l s := by
  obtain ⟨C, capc, E, h0, h1, h2, ha, hne, he⟩ := h.ex
  have nob : ∀ b off, C = some ⟨b, off, none⟩ → l ≠ [] → b ≠ gx := by
    rintro b off e hl rfl
    rcases ha.reads with h9 | ⟨b', off', e', hlt, hc⟩
    · exact hl h9
    · rw [e] at e'
      injection e' with e'
      injection e' with e1 e2
      subst e1 e2
      have hc0 := hc 0 (List.length_pos_iff.2 hl)
      have q0 := hx.c0
      have q1 := hx.c1
      have q2 := hx.c2
      have q3 := hx.c3
      have q4 := hx.c4
      by_cases h5 : 5 ≤ off + 0
      · rw [hx.past _ h5] at hc0; cases hc0
      · have : off = 0 ∨ off = 1 ∨ off = 2 ∨ off = 3 ∨ off = 4 := by omega
        rcases this with rfl | rfl | rfl | rfl | rfl
        · rw [q0] at hc0; cases hc0
        · rw [q1] at hc0; cases hc0
        · rw [q2] at hc0; cases hc0
        · rw [q3] at hc0; cases hc0
        · rw [q4] at hc0; cases hc0
  have he' : ErrIs w' p g E s := by
    rcases he with h | h | ⟨a, q, a1, a2, a3, a4, a5, a6, a7⟩
    · exact .inl h
    · exact .inr (.inl h)
    · have hax : a ≠ gx := by
        rintro rfl
        rw [hx.c0] at a6; cases a6
      exact .inr (.inr ⟨a, q, a1, a2, a3, a4, Nat.lt_of_lt_of_le a5 hb.size, (hb.cell a5 hax).trans a6, (hb.cell a5 hax).trans a7⟩)
  exact ⟨Nat.lt_of_lt_of_le h.lt hb.size, fun k => (hb.frozen h.lt hg).trans (h.free k), h.ok, C, capc, E, (hb.cell h.lt hg).trans h0, (hb.cell h.lt hg).trans h1, (hb.cell h.lt hg).trans h2, ha.butx hb nob, hne, he'⟩

theorem fine_any (w : World) (A : Option Addr) (cap g : Nat) (l : List UInt8) (s : Vi.Rs) (b : Bool) (h : RRd w A cap g l s) (hb : ((s.code : Int) == 0) = b) :
    Calls Tryz.prog 140 #[.pointer (some ⟨g, 0, none⟩)] w fun e w' => e = .returned (.bool b) ∧ w = w' := by
  have h2 := h.c2
  have hl := h.lt
  clear h
  generalize (s.code : Int) = c at *
  go_enter Tryz.func140, Tryz.ntmps140
  go_wp2_with fail
  go_ret
  exact ⟨rfl, rfl⟩

set_option maxRecDepth 100000 in
theorem rfail_end (w : World) (A : Option Addr) (cap g : Nat) (l : List UInt8) (s : Vi.Rs) (h : RRd w A cap g l s) :
    Calls Tryz.prog 154 #[.pointer (some ⟨g, 0, none⟩), .int .i64 101] w fun e w' => e = .returned (.tuple #[]) ∧ RRd w' A cap g l (s.fail 101) ∧ But g w w' := by
  have HB := hide (bare_any 101 w)
  have HR := hide h
  clear h
  go_enter Tryz.func154, Tryz.ntmps154
  go_wp2_with fail
  refine HB.out.mono ?_
  rintro e w1 ⟨rfl, hb⟩
  have hr := HR.out.below hb
  have HS := hide (hr.bad_set (hr.ok.fail (c := 101) (.inl rfl)) rfl)
  have HBB := hide (But.of_below (g := g) hb)
  have f2 := hr.free 2
  have f3 := hr.free 3
  have f4 := hr.free 4
  have c2 := hr.c2
  have c3 := hr.c3
  have c4 := hr.c4
  have hl := hr.lt
  clear hr hb HB HR
  go_wp2_with fail
  go_returns
  exact ⟨rfl, HS.out.1, HBB.out.trans HS.out.2⟩
set_option maxRecDepth 100000 in
theorem rfail_at (w : World) (A : Option Addr) (cap g : Nat) (l : List UInt8) (s : Vi.Rs) (c : Nat) (hc : c = 103 ∨ c = 105) (h : RRd w A cap g l s) :
    Calls Tryz.prog 154 #[.pointer (some ⟨g, 0, none⟩), .int .i64 c] w fun e w' => e = .returned (.tuple #[]) ∧ RRd w' A cap g l (s.fail c) ∧ But g w w' := by
  have HB := hide (placed_any c s.at_ w (by omega))
  have HR := hide h
  have hl0 := h.lt
  have hc1 := h.c1
  have hne : ((c : Int) == 101) = false := by simp; omega
  have hok := h.ok.fail (c := c) (by omega)
  have hfl : s.fail c = ⟨s.at_, c, some s.at_⟩ := by unfold Vi.Rs.fail; rw [if_neg (by omega)]
  rw [hfl] at hok
  have HOK := hide hok
  have HFL := hide hfl
  clear h hc hok hfl
  go_enter Tryz.func154, Tryz.ntmps154
  go_wp2_with fail
  refine HB.out.mono ?_
  rintro e w1 ⟨rfl, hb⟩
  have hr := HR.out.below hb
  have HS := hide (hr.bad_set HOK.out rfl)
  have HBB := hide (But.of_below (g := g) hb)
  have f2 := hr.free 2
  have f3 := hr.free 3
  have f4 := hr.free 4
  have c2 := hr.c2
  have c3 := hr.c3
  have c4 := hr.c4
  have hl := hr.lt
  clear hr hb HB HR
  go_wp2_with fail
  go_end0
  rw [HFL.out]
  exact ⟨rfl, HS.out.1, HBB.out.trans HS.out.2⟩
theorem rfail_any (w : World) (A : Option Addr) (cap g : Nat) (l : List UInt8) (s : Vi.Rs) (c : Nat) (hc : c = 101 ∨ c = 103 ∨ c = 105) (h : RRd w A cap g l s) :
    Calls Tryz.prog 154 #[.pointer (some ⟨g, 0, none⟩), .int .i64 c] w fun e w' => e = .returned (.tuple #[]) ∧ RRd w' A cap g l (s.fail c) ∧ But g w w' := by
  rcases hc with rfl | rfl | rfl
  · exact rfail_end w A cap g l s h
  · exact rfail_at w A cap g l s 103 (.inl rfl) h
  · exact rfail_at w A cap g l s 105 (.inr rfl) h
end Go.Proofs.YtfdppggdgdnnaaaGreatDoor

namespace Go.Proofs.YtfdppggdgdnnaaaGreatDoor
open Go.RowKit

set_option maxRecDepth 100000 in
set_option maxHeartbeats 1000000 in
theorem rnum_good (w : World) (A : Option Addr) (cap g : Nat) (l : List UInt8) (s : Vi.Rs) (most : Nat) (h : RRd w A cap g l s) (hl : l.length ≤ 1000000) (hc : s.code = 0) (a k c : Nat) (hg : Vi.get 0 0 (l.drop s.at_) = (a, k, c)) (h3 : c = 0 ∨ c = 101 ∨ c = 103) (hk : k ≤ l.length - s.at_) :
    Calls Tryz.prog 156 #[.pointer (some ⟨g, 0, none⟩), .int .u64 most] w fun e w' =>
      if c ≠ 0 then e = .returned (.int .u64 0) ∧ RRd w' A cap g l (s.fail c) ∧ But g w w'
      else if most < a then e = .returned (.int .u64 0) ∧ RRd w' A cap g l (s.fail 105) ∧ But g w w'
      else e = .returned (.int .u64 a) ∧ RRd w' A cap g l (s.on k) ∧ But g w w' := by
  have HFI := hide (fine_any w A cap g l s true h (by simp [hc]))
  have HFA := hide (fun q c hc => rfail_any (w.drewN q) A cap g l s c hc (h.below (below_drewN (Below.refl w.heap.size w) q)))
  have hle := h.ok.le
  have HG := hide (fun W hW => refGet_at (cutA A cap s.at_) (cap - s.at_) (l.length - s.at_) (l.drop s.at_) W a k c (by rw [List.length_drop]) hg (by omega) (((h.arg.below (w' := W) hW (Nat.le_refl _)).cut s.at_ hle).reads))
  have HAT := hide (fun q => (h.below (below_drewN (Below.refl w.heap.size w) q)).at_set k (by omega) hc)
  have HBT := hide (fun q => (But.drewN g w q).trans (But.setCell g 1 (w.drewN q) (.int .i64 ((s.at_ : Int) + (k : Int)))))
  have HBQ := hide (fun q => But.drewN g w q)
  have k1 := fun W => run_cut_l W A l.length cap s.at_ hle
  have hcap := h.arg.le
  have c0 := h.c0
  have c1 := h.c1
  have f1 := h.free 1
  have hlt := h.lt
  clear h hg hc
  go_enter Tryz.func156, Tryz.ntmps156
  go_wp2_with fail
  refine HFI.out.mono ?_
  rintro e w0 ⟨rfl, rfl⟩
  go_wp2_with fail
  go_quiet (first | (go_at_call 179; exact Calls.quiet_of_same ((HG.out _ (below_drewN (Below.refl _ _) _)).mono fun _ _ ⟨h1, h2⟩ => ⟨h1, h2.symm⟩)))
  clear k1 HG
  by_cases hc0 : c = 0
  · subst hc0
    by_cases hm : most < a
    · have hm' : (most : Int) < (a : Int) := by omega
      have HM := hide hm
      have HF := hide (HFA.out nq 105 (by omega))
      clear hm
      go_wp2_with fail
      refine HF.out.mono ?_
      rintro e w1 ⟨rfl, hr1, hb1⟩
      go_wp2_with fail
      go_ret
      exact ⟨rfl, hr1, (HBQ.out nq).trans hb1⟩
    · have hm' : ¬ (most : Int) < (a : Int) := by omega
      have HM := hide hm
      clear hm
      go_wp2_with fail
      go_ret
      exact ⟨rfl, HAT.out nq, HBT.out nq⟩
  · have HC := hide hc0
    have hc1 : ((c : Int) == 0) = false := by simp; omega
    have HF := hide (HFA.out nq c (by omega))
    clear hc0
    go_wp2_with fail
    refine HF.out.mono ?_
    rintro e w1 ⟨rfl, hr1, hb1⟩
    go_wp2_with fail
    go_ret
    exact ⟨rfl, hr1, (HBQ.out nq).trans hb1⟩

set_option maxRecDepth 100000 in
set_option maxHeartbeats 1000000 in
theorem rint_good (w : World) (A : Option Addr) (cap g : Nat) (l : List UInt8) (s : Vi.Rs) (lo hi : Int) (h : RRd w A cap g l s) (hl : l.length ≤ 1000000) (hc : s.code = 0) (a : Int) (k c : Nat) (hg : (Vi.unzz (Vi.get 0 0 (l.drop s.at_)).1, (Vi.get 0 0 (l.drop s.at_)).2) = (a, k, c)) (h3 : c = 0 ∨ c = 101 ∨ c = 103) (hk : k ≤ l.length - s.at_) :
    Calls Tryz.prog 139 #[.pointer (some ⟨g, 0, none⟩), .int .i64 lo, .int .i64 hi] w fun e w' =>
      if c ≠ 0 then e = .returned (.int .i64 0) ∧ RRd w' A cap g l (s.fail c) ∧ But g w w'
      else if a < lo ∨ hi < a then e = .returned (.int .i64 0) ∧ RRd w' A cap g l (s.fail 105) ∧ But g w w'
      else e = .returned (.int .i64 a) ∧ RRd w' A cap g l (s.on k) ∧ But g w w' := by
  have HFI := hide (fine_any w A cap g l s true h (by simp [hc]))
  have HFA := hide (fun q c hc => rfail_any (w.drewN q) A cap g l s c hc (h.below (below_drewN (Below.refl w.heap.size w) q)))
  have hle := h.ok.le
  have HG := hide (fun W hW => refGetInt_at (cutA A cap s.at_) (cap - s.at_) (l.length - s.at_) (l.drop s.at_) W a k c (by rw [List.length_drop]) hg (by omega) (((h.arg.below (w' := W) hW (Nat.le_refl _)).cut s.at_ hle).reads))
  have HAT := hide (fun q => (h.below (below_drewN (Below.refl w.heap.size w) q)).at_set k (by omega) hc)
  have HBT := hide (fun q => (But.drewN g w q).trans (But.setCell g 1 (w.drewN q) (.int .i64 ((s.at_ : Int) + (k : Int)))))
  have HBQ := hide (fun q => But.drewN g w q)
  have k1 := fun W => run_cut_l W A l.length cap s.at_ hle
  have hcap := h.arg.le
  have c0 := h.c0
  have c1 := h.c1
  have f1 := h.free 1
  have hlt := h.lt
  clear h hg hc
  go_enter Tryz.func139, Tryz.ntmps139
  go_wp2_with fail
  refine HFI.out.mono ?_
  rintro e w0 ⟨rfl, rfl⟩
  go_wp2_with fail
  go_quiet (first | (go_at_call 155; exact Calls.quiet_of_same ((HG.out _ (below_drewN (Below.refl _ _) _)).mono fun _ _ ⟨h1, h2⟩ => ⟨h1, h2.symm⟩)))
  clear k1 HG
  by_cases hc0 : c = 0
  · subst hc0
    by_cases hm : a < lo
    · have HM := hide (show a < lo ∨ hi < a from .inl hm)
      have HF := hide (HFA.out nq 105 (by omega))
      go_wp2_with fail
      refine HF.out.mono ?_
      rintro e w1 ⟨rfl, hr1, hb1⟩
      go_wp2_with fail
      go_ret
      exact ⟨rfl, hr1, (HBQ.out nq).trans hb1⟩
    · by_cases hm2 : hi < a
      · have HM := hide (show a < lo ∨ hi < a from .inr hm2)
        have HF := hide (HFA.out nq 105 (by omega))
        go_wp2_with fail
        refine HF.out.mono ?_
        rintro e w1 ⟨rfl, hr1, hb1⟩
        go_wp2_with fail
        go_ret
        exact ⟨rfl, hr1, (HBQ.out nq).trans hb1⟩
      · have HM := hide (show ¬ (a < lo ∨ hi < a) by omega)
        go_wp2_with fail
        go_ret
        exact ⟨rfl, HAT.out nq, HBT.out nq⟩
  · have HC := hide hc0
    have hc1 : ((c : Int) == 0) = false := by simp; omega
    have HF := hide (HFA.out nq c (by omega))
    clear hc0
    go_wp2_with fail
    refine HF.out.mono ?_
    rintro e w1 ⟨rfl, hr1, hb1⟩
    go_wp2_with fail
    go_ret
    exact ⟨rfl, hr1, (HBQ.out nq).trans hb1⟩

set_option maxRecDepth 100000 in
theorem rnum_bad (w : World) (A : Option Addr) (cap g : Nat) (l : List UInt8) (s : Vi.Rs) (most : Nat) (h : RRd w A cap g l s) (hc : s.code ≠ 0) :
    Calls Tryz.prog 156 #[.pointer (some ⟨g, 0, none⟩), .int .u64 most] w fun e w' => e = .returned (.int .u64 0) ∧ w = w' := by
  have HFI := hide (fine_any w A cap g l s false h (by simp [hc]))
  clear h hc
  go_enter Tryz.func156, Tryz.ntmps156
  go_wp2_with fail
  refine HFI.out.mono ?_
  rintro e w0 ⟨rfl, rfl⟩
  go_wp2_with fail
  go_ret
  exact ⟨rfl, rfl⟩

set_option maxRecDepth 100000 in
theorem rint_bad (w : World) (A : Option Addr) (cap g : Nat) (l : List UInt8) (s : Vi.Rs) (lo hi : Int) (h : RRd w A cap g l s) (hc : s.code ≠ 0) :
    Calls Tryz.prog 139 #[.pointer (some ⟨g, 0, none⟩), .int .i64 lo, .int .i64 hi] w fun e w' => e = .returned (.int .i64 0) ∧ w = w' := by
  have HFI := hide (fine_any w A cap g l s false h (by simp [hc]))
  clear h hc
  go_enter Tryz.func139, Tryz.ntmps139
  go_wp2_with fail
  refine HFI.out.mono ?_
  rintro e w0 ⟨rfl, rfl⟩
  go_wp2_with fail
  go_ret
  exact ⟨rfl, rfl⟩

theorem rnum_any (w : World) (A : Option Addr) (cap g : Nat) (l : List UInt8) (s : Vi.Rs) (most : Nat) (h : RRd w A cap g l s) (hl : l.length ≤ 1000000) :
    Calls Tryz.prog 156 #[.pointer (some ⟨g, 0, none⟩), .int .u64 most] w fun e w' => e = .returned (.int .u64 (Vi.num l s most).1) ∧ RRd w' A cap g l (Vi.num l s most).2 ∧ But g w w' := by
  by_cases hc : s.code ≠ 0
  · have e : Vi.num l s most = (0, s) := by unfold Vi.num Vi.peek; rw [if_pos hc]; rfl
    rw [e]
    exact (rnum_bad w A cap g l s most h hc).mono fun e w' ⟨h1, h2⟩ => ⟨h1, h2 ▸ h, h2 ▸ But.refl g w⟩
  · have hc0 : s.code = 0 := by omega
    obtain ⟨_, h5, _, h4⟩ := Vi.getD_bd l s
    refine (rnum_good w A cap g l s most h hl hc0 _ _ _ rfl h4 h5).mono fun e w' hp => ?_
    unfold Vi.num Vi.peek
    rw [if_neg hc]
    simp only
    by_cases h5 : (Vi.get 0 0 (l.drop s.at_)).2.2 ≠ 0
    · rw [if_pos h5] at hp ⊢; exact hp
    · rw [if_neg h5] at hp ⊢
      by_cases h6 : most < (Vi.get 0 0 (l.drop s.at_)).1
      · rw [if_pos h6] at hp ⊢; exact hp
      · rw [if_neg h6] at hp ⊢; exact hp

theorem rint_any (w : World) (A : Option Addr) (cap g : Nat) (l : List UInt8) (s : Vi.Rs) (lo hi : Int) (h : RRd w A cap g l s) (hl : l.length ≤ 1000000) :
    Calls Tryz.prog 139 #[.pointer (some ⟨g, 0, none⟩), .int .i64 lo, .int .i64 hi] w fun e w' => e = .returned (.int .i64 (Vi.int l s lo hi).1) ∧ RRd w' A cap g l (Vi.int l s lo hi).2 ∧ But g w w' := by
  by_cases hc : s.code ≠ 0
  · have e : Vi.int l s lo hi = (0, s) := by unfold Vi.int Vi.peekI; rw [if_pos hc]; rfl
    rw [e]
    exact (rint_bad w A cap g l s lo hi h hc).mono fun e w' ⟨h1, h2⟩ => ⟨h1, h2 ▸ h, h2 ▸ But.refl g w⟩
  · have hc0 : s.code = 0 := by omega
    obtain ⟨_, h5, _, h4⟩ := Vi.getD_bd l s
    refine (rint_good w A cap g l s lo hi h hl hc0 _ _ _ rfl h4 h5).mono fun e w' hp => ?_
    unfold Vi.int Vi.peekI
    rw [if_neg hc]
    simp only
    by_cases h5 : (Vi.get 0 0 (l.drop s.at_)).2.2 ≠ 0
    · rw [if_pos h5] at hp ⊢; exact hp
    · rw [if_neg h5] at hp ⊢
      by_cases h6 : Vi.unzz (Vi.get 0 0 (l.drop s.at_)).1 < lo ∨ hi < Vi.unzz (Vi.get 0 0 (l.drop s.at_)).1
      · rw [if_pos h6] at hp ⊢; exact hp
      · rw [if_neg h6] at hp ⊢; exact hp
end Go.Proofs.YtfdppggdgdnnaaaGreatDoor

namespace Go.Proofs.YtfdppggdgdnnaaaGreatDoor
open Go.RowKit

theorem peek_most {l : List UInt8} {s : Vi.Rs} {most : Nat} : (Vi.peek l s most).1 ≤ most := by
  unfold Vi.peek
  by_cases hc : s.code ≠ 0
  · rw [if_pos hc]; exact Nat.zero_le _
  · rw [if_neg hc]
    simp only
    by_cases hg : (Vi.get 0 0 (l.drop s.at_)).2.2 ≠ 0
    · rw [if_pos hg]; exact Nat.zero_le _
    · rw [if_neg hg]
      by_cases hm : most < (Vi.get 0 0 (l.drop s.at_)).1
      · rw [if_pos hm]; exact Nat.zero_le _
      · rw [if_neg hm]; simp only; omega
theorem RRd.at_back {w : World} {A : Option Addr} {cap g : Nat} {l : List UInt8} {s : Vi.Rs} {k : Nat} (h : RRd w A cap g l (s.on k)) (hok : Vi.Ok l s) : RRd (w.setCell ⟨g, 1, none⟩ (.int .i64 (s.at_ : Int))) A cap g l s := by
  have hb : But g w (w.setCell ⟨g, 1, none⟩ (.int .i64 (s.at_ : Int))) := But.setCell _ _ _ _
  refine ⟨Nat.lt_of_lt_of_le h.lt hb.size, fun j => (World.frozen?_setCell _ _ _ _).trans (h.free j), hok, ?_, World.cell?_setCell_same _ _ _ h.c1, ?_, ?_, ?_, h.arg.butx hb h.ne, h.ne, fun j hj => by rw [World.cell?_setCell_other _ _ _ _ (by intro e; injection e; omega)]; exact h.past j hj⟩
  · rw [World.cell?_setCell_other _ _ _ _ (by simp)]; exact h.c0
  · rw [World.cell?_setCell_other _ _ _ _ (by simp)]; exact h.c2
  · rw [World.cell?_setCell_other _ _ _ _ (by simp)]; exact h.c3
  · rw [World.cell?_setCell_other _ _ _ _ (by simp)]; exact h.c4
theorem Own.two {w : World} {base g : Nat} {v : Value} {l : List UInt8} (h : Own w base v l) (hg : g < base) : Own2 base g l v w := by
  obtain ⟨A, c, rfl, ha⟩ := h.arg
  refine ⟨A, c, rfl, ha, fun b off hA => ?_⟩
  subst hA
  have := (h.lt b rfl).1
  exact ⟨this, by omega⟩
theorem Own2.nil (lo g : Nat) (w : World) : Own2 lo g [] (.slice none 0 0) w := ⟨none, 0, rfl, ⟨by simp, by omega, fun _ => rfl, .inl rfl⟩, fun b off h => by cases h⟩

set_option maxRecDepth 100000 in
set_option maxHeartbeats 1000000 in
theorem rtext_any (w : World) (A : Option Addr) (cap g : Nat) (l : List UInt8) (s : Vi.Rs) (most : Int) (h1 : -9223372036854775808 ≤ most) (h2 : most ≤ 9223372036854775807) (h : RRd w A cap g l s) (hl : l.length ≤ 1000000) :
    Calls Tryz.prog 141 #[.pointer (some ⟨g, 0, none⟩), .int .i64 most] w fun e w' => ∃ v, e = .returned v ∧ Own2 w.heap.size g (Vi.text l s most.toNat).1 v w' ∧ RRd w' A cap g l (Vi.text l s most.toNat).2 ∧ But g w w' := by
  have HN := hide (rnum_any w A cap g l s most.toNat h hl)
  obtain ⟨o1, o2, o3, o4⟩ := Vi.peek_ok h.ok most.toNat
  have o5 := peek_most (l := l) (s := s) (most := most.toNat)
  have HB := hide (Vi.peek_bad (l := l) (s := s) (most := most.toNat))
  have HGD := hide (peek_good (l := l) (s := s) (most := most.toNat))
  have HE : Hid (Vi.text l s most.toNat = let q := Vi.peek l s most.toNat; if q.2.2.code ≠ 0 then ([], q.2.2) else if l.length < s.at_ + q.2.1 + q.1 then ([], s.fail 101) else ((l.drop (s.at_ + q.2.1)).take q.1, s.on (q.2.1 + q.1))) := hide rfl
  have HNE : Hid (Vi.num l s most.toNat = ((Vi.peek l s most.toNat).1, (Vi.peek l s most.toNat).2.2.on (Vi.peek l s most.toNat).2.1)) := hide rfl
  have HM : Hid ((0 ≤ most → (most.toNat : Int) = most) ∧ (most ≤ 0 → (most.toNat : Int) = 0)) := by show _ ∧ _; omega
  have HOK := hide h.ok
  have c1 := h.c1
  have hlt := h.lt
  rw [HNE.out] at HN
  clear h HNE
  generalize Vi.text l s most.toNat = T at *
  generalize hmt : most.toNat = mt at *
  generalize Vi.peek l s mt = q at *
  obtain ⟨n, k, s1⟩ := q
  simp only at *
  have hn63 : n ≤ 9223372036854775807 := by omega
  have hn63' : (n : Int) ≤ 9223372036854775807 := by omega
  go_enter Tryz.func141, Tryz.ntmps141
  go_upto_region 2 with fail
  go_cut [6] (fun n' wx => n' = .int .i64 n ∧ RRd wx A cap g l (s1.on k) ∧ But g w wx)
  case first =>
    clear hmt
    by_cases h0 : 0 < most
    · have e := HM.out.1 (by omega)
      have HN' := HN.out
      rw [e] at HN'
      have HNN := hide HN'
      clear e HN' HN
      go_wp2_with fail
      refine HNN.out.mono ?_
      rintro e w1 ⟨rfl, hr1, hb1⟩
      go_wp2_with fail
      go_meet
      exact ⟨rfl, hr1, hb1⟩
    · have e := HM.out.2 (by omega)
      by_cases h9 : most < 0
      · skip
        have HN' := HN.out
        rw [e] at HN'
        have HNN := hide HN'
        clear e HN' HN
        go_wp2_with fail
        refine HNN.out.mono ?_
        rintro e w1 ⟨rfl, hr1, hb1⟩
        go_wp2_with fail
        go_meet
        exact ⟨rfl, hr1, hb1⟩
      · obtain rfl : most = 0 := by omega
        have HN' := HN.out
        rw [e] at HN'
        have HNN := hide HN'
        clear e HN' HN
        go_wp2_with fail
        refine HNN.out.mono ?_
        rintro e w1 ⟨rfl, hr1, hb1⟩
        go_wp2_with fail
        go_meet
        exact ⟨rfl, hr1, hb1⟩
  case rest =>
    obtain ⟨rfl, hr1, hb1⟩ := hcut
    clear HN HM hmt c1 hlt
    have HR1 := hide hr1
    have HB1 := hide hb1
    by_cases hc : s1.code ≠ 0
    · have HFI := hide (fine_any wc A cap g l _ false hr1 (by simp [Vi.Rs.on, hc]))
      have hk0 : k = 0 := (HB.out hc).2
      have HT : Hid (T = ([], s1)) := by show _ = _; rw [HE.out]; rw [if_pos hc]
      have HK := hide hk0
      clear hr1 hb1 hc hk0
      go_wp2_with fail
      refine HFI.out.mono ?_
      rintro e w2 ⟨rfl, rfl⟩
      go_wp2_with fail
      go_ret
      refine ⟨_, rfl, ?_, ?_, HB1.out⟩
      · rw [HT.out]; exact Own2.nil _ _ _
      · rw [HT.out]
        have h := HR1.out
        rw [HK.out] at h; exact h
    · have hc0 : s1.code = 0 := by omega
      obtain rfl : s1 = s := HGD.out hc0
      have HFI := hide (fine_any wc A cap g l _ true hr1 (by simp [Vi.Rs.on, hc0]))
      have c0 := hr1.c0
      have c1 : wc.cell? ⟨g, 1, none⟩ = some (.int .i64 ((s1.at_ + k : Nat) : Int)) := hr1.c1
      have hlt := hr1.lt
      have hfr := hr1.free 1
      have hat := o1.le
      obtain ⟨pp, hpp⟩ : ∃ pp, pp = s1.at_ + k := ⟨_, rfl⟩
      rw [← hpp] at c1 o3
      have hpl : pp ≤ 1000000 := by omega
      by_cases hn : l.length < s1.at_ + k + n
      · have hn' : (l.length : Int) - (pp : Int) < (n : Int) := by omega
        have HT : Hid (T = ([], s1.fail 101)) := by show _ = _; rw [HE.out, if_neg hc, if_pos hn]
        have HRB := hide (fun q => (HR1.out.below (below_drewN (Below.refl wc.heap.size wc) q)).at_back HOK.out)
        have HF := hide (fun q => rfail_end _ A cap g l s1 (HRB.out q))
        have HBB := hide (fun q => (But.drewN g wc q).trans (But.setCell g 1 _ (.int .i64 (s1.at_ : Int))))
        clear hr1 hb1 hc hc0 hn o1 o2 HE HOK hpp
        go_wp2_with fail
        refine HFI.out.mono ?_
        rintro e w2 ⟨rfl, rfl⟩
        go_wp2_with fail
        go_quiet (fail)
        go_wp2_with fail
        refine (HF.out _).mono ?_
        rintro e w3 ⟨rfl, hr3, hb3⟩
        go_wp2_with fail
        go_ret
        refine ⟨_, rfl, ?_, ?_, HB1.out.trans ((HBB.out _).trans hb3)⟩
        · rw [HT.out]; exact Own2.nil _ _ _
        · rw [HT.out]; exact hr3
      · have hn' : ¬ (l.length : Int) - (pp : Int) < (n : Int) := by omega
        have hnl : n ≤ 1000000 := by omega
        have HT : Hid (T = ((l.drop (s1.at_ + k)).take n, s1.on (k + n))) := by show _ = _; rw [HE.out, if_neg hc, if_neg hn]
        have HCC := hide (fun q => (HR1.out.below (below_drewN (Below.refl wc.heap.size wc) q)).at_set n (by show s1.at_ + k + n ≤ _; omega) hc0)
        have e1 : (((s1.on k).at_ : Nat) : Int) = (pp : Int) := by rw [hpp]; rfl
        rw [e1] at HCC
        have HPP := hide hpp
        clear hr1 hb1 hc hc0 o1 o2 HE HOK e1 hpp hn
        go_upto_region 5 with fail
        refine HFI.out.mono ?_
        rintro e w2 ⟨rfl, rfl⟩
        go_upto_region 5 with fail
        go_quiet (fail)
        go_upto_region 10 with fail
        have hrd := HCC.out nq
        have hbt := HB1.out.trans ((But.drewN g wc nq).trans (But.setCell g 1 _ (.int .i64 ((pp : Int) + (n : Int)))))
        have hw0 : w.heap.size ≤ ((wc.drewN nq).setCell ⟨g, 1, none⟩ (.int .i64 ((pp : Int) + (n : Int)))).heap.size := hbt.size
        have HRD := hide hrd
        have HBT := hide hbt
        generalize (wc.drewN nq).setCell ⟨g, 1, none⟩ (.int .i64 ((pp : Int) + (n : Int))) = W at *
        have d0 := hrd.c0
        have d1 : W.cell? ⟨g, 1, none⟩ = some (.int .i64 (((s1.at_ + k) + n : Nat) : Int)) := hrd.c1
        have hgl := hrd.lt
        have hcap := hrd.arg.le
        obtain ⟨hi, hhi⟩ : ∃ hi, hi = pp + n := ⟨_, rfl⟩
        have HHI : Hid ((hi : Int) - (n : Int) = (pp : Int)) := by show _ = _; omega
        rw [← HPP.out, ← hhi] at d1
        have b1 : pp ≤ l.length := by omega
        have b2 : pp ≤ hi := by omega
        have b3 : hi ≤ l.length := by have := HPP.out; omega
        have b4 : hi - pp = n := by omega
        have hk1 := fun W => run_cut_lh W A l.length cap pp hi b2 (by omega)
        rw [b4] at hk1
        have hsub := HHI.out
        rw [← HPP.out] at HT
        have hlen : ((l.drop pp).take n).length = n := by rw [List.length_take, List.length_drop]; omega
        have HLEN := hide hlen
        have hgm := hw0
        have HGM := hide (show g < W.heap.size from hgl)
        have HCL := hide (fun W' (hb : Below W.heap.size W W') => bytes_any (cutA A cap pp) (cap - pp) n ((l.drop pp).take n) W' hlen (by omega) (((hrd.arg.below hb (Nat.le_refl _)).cut pp b1).first n).reads)
        clear hrd hbt HCC HB1 HR1 hlen hcap hhi b4 hlt c0 c1 hfr hgm HFI HHI
        refine wp_region_made [47, 48, 49, 50, 51, 52, 53, 54, 55, 56, 57, 58, 59, 60, 61, 62] (fun d => match d with
          | 47 => .is (.pointer (some ⟨g, 0, none⟩)) | 48 => .is (.pointer (some ⟨g, 0, none⟩)) | 49 => .is (.pointer (some ⟨g, 0, none⟩)) | 50 => .is (.slice A l.length cap)
          | 51 => .is (.pointer (some ⟨g, 0, none⟩)) | 52 => .is (.pointer (some ⟨g, 0, none⟩)) | 53 => .is (.pointer (some ⟨g, 1, none⟩)) | 54 => .is (.int .i64 hi) | 55 => .is (.int .i64 n) | 56 => .is (.int .i64 pp)
          | 57 => .is (.pointer (some ⟨g, 0, none⟩)) | 58 => .is (.pointer (some ⟨g, 0, none⟩)) | 59 => .is (.pointer (some ⟨g, 1, none⟩)) | 60 => .is (.int .i64 hi)
          | 61 => .is (.slice (cutA A cap pp) n (cap - pp)) | 62 => .bytes W.heap.size g ((l.drop pp).take n)
          | _ => .any) _ (by kernel_rfl) (by kernel_rfl) rfl (by kernel_rfl) ?_ ?_
        · simp only [List.size_toArray, List.length_cons, List.length_nil, List.take_succ_cons, List.take_zero, StepsOk]
          refine ⟨?_, ?_, ?_, ?_, ?_, ?_, ?_, ?_, ?_, ?_, ?_, ?_, ?_, ?_, ?_, ?_, trivial⟩
          all_goals
            intro ev w1 hb hev hd
            have ev0 : ev (.tmp 0) = .pointer (some ⟨g, 0, none⟩) := hev _ (by simp)
            have ev6 : ev (.tmp 6) = .int .i64 n := hev _ (by simp)
            have evf : ∀ f, ev (.func f) = .func (.func f) #[] #[] := fun f => hev _ (by simp)
            have hd0 := (hb.cell (p := ⟨g, 0, none⟩) hgl).trans d0
            have hd1 := (hb.cell (p := ⟨g, 1, none⟩) hgl).trans d1
            have HB := hide hb
            clear hev hb
            simp [DepsOk, Known.is] at hd
            try simp [OpRuns, execOp, go_sem, Known.is, Below.refl, *]
          · rw [IntKind.wrap_i64]; omega
          · refine (HCL.out w1 HB.out).mono ?_
            rintro e w2 ⟨v, rfl, ho, hb'⟩
            exact ⟨v, rfl, hb', Nat.lt_of_lt_of_le HGM.out (Nat.le_trans HB.out.size hb'.size), (ho.mono HB.out.size).two HGM.out⟩
        · intro f w1 hb hf
          have hk62 : g < w1.heap.size ∧ Own2 W.heap.size g ((l.drop pp).take n) (f 62) w1 := hf 62 (by simp)
          obtain ⟨-, A', c', e62, ha', hne'⟩ := hk62
          rw [HLEN.out] at e62
          have HA' := hide ha'
          have HNE := hide hne'
          have HBB := hide hb
          clear hf hb ha' hne'
          simp only [puts]
          go_wp2_with fail
          go_ret
          have HON : s1.on (k + n) = (s1.on k).on n := by unfold Vi.Rs.on; rw [Nat.add_assoc]
          refine ⟨_, rfl, ?_, ?_, HBT.out.trans (But.of_below HBB.out)⟩
          · rw [HT.out]; exact ⟨A', c', by rw [HLEN.out]; rfl, HA'.out, fun b off h => ⟨Nat.le_trans hw0 (HNE.out b off h).1, (HNE.out b off h).2⟩⟩
          · rw [HT.out, HON]; exact HRD.out.below HBB.out
end Go.Proofs.YtfdppggdgdnnaaaGreatDoor

namespace Go.Proofs.YtfdppggdgdnnaaaGreatDoor
open Go.RowKit

set_option maxRecDepth 100000 in
set_option maxHeartbeats 1000000 in
/-- The lowest byte first, of at most eight. -/
theorem refFixed_any (A : Option Addr) (cap m : Nat) (u : List UInt8) (w : World) (hu : u.length = m) (hm : m ≤ 8) (hr : Reads w A u) :
    Calls Tryz.prog 120 #[.slice A m cap] w fun e w' => e = .returned (.int .u64 (Vi.little u)) ∧ w = w' := by
  have HRD := hide hr
  have HML := hide hu
  clear hr hu
  go_enter Tryz.func120, Tryz.ntmps120
  go_wp2_with fail
  go_loop [3, 4] (fun v i => ∃ k : Nat, k ≤ m ∧ i = .int .i64 k ∧ v = .int .u64 (Vi.little (u.take k))) (fun _ i => m - (intOf i).toNat)
  case atStart => exact ⟨0, Nat.zero_le _, rfl, rfl⟩
  case round =>
    obtain ⟨k, hk, rfl, rfl⟩ := hrel
    by_cases hkm : k < m
    · have hku : k < u.length := by rw [HML.out]; exact hkm
      have hk8 : k < 8 := by omega
      rcases HRD.out with rfl | ⟨b, off, rfl, hb, hcl⟩
      · simp at hku
      have hcell := hcl k hku
      have hlk : (u.take k).length = k := by rw [List.length_take]; omega
      have hsn : u.take (k + 1) = u.take k ++ [u.getD k 0] := by
        rw [List.take_succ_eq_append_getElem hku]; simp [List.getD, hku]
      have hor := little_or (u.take k) (u.getD k 0) (by omega)
      rw [hlk, ← hsn] at hor
      have HSN := hide hsn
      have hb1 := B_lo (u.getD k 0)
      have hb2 := B_hi (u.getD k 0)
      clear hcl hsn hlk hku
      generalize u.getD k 0 = c at *
      generalize Vi.little (u.take k) = v0 at *
      generalize hv1 : Vi.little (u.take (k + 1)) = v1 at *
      have HV1 := hide hv1
      clear hv1
      go_wp2_with fail
      exact ⟨⟨k + 1, by omega, rfl, by rw [HV1.out]⟩, by simp [intOf]; omega⟩
    · obtain rfl : k = m := by omega
      have HU : Hid (u.take k = u) := by show _ = _; rw [← HML.out, List.take_length]
      go_wp2_with fail
      go_ret
      exact ⟨by rw [HU.out]; rfl, rfl⟩

set_option maxRecDepth 100000 in
set_option maxHeartbeats 1000000 in
theorem rfixed_any (w : World) (A : Option Addr) (cap g : Nat) (l : List UInt8) (s : Vi.Rs) (n : Int) (_ : -9223372036854775808 ≤ n) (_ : n ≤ 9223372036854775807) (h : RRd w A cap g l s) (hl : l.length ≤ 1000000) :
    Calls Tryz.prog 138 #[.pointer (some ⟨g, 0, none⟩), .int .i64 n] w fun e w' => e = .returned (.int .u64 (Vi.fixed l s n).1) ∧ RRd w' A cap g l (Vi.fixed l s n).2 ∧ But g w w' := by
  have HR := hide h
  have HE : Hid (Vi.fixed l s n = if s.code ≠ 0 ∨ n < 0 ∨ 8 < n then (0, s) else if l.length < s.at_ + n.toNat then (0, s.fail 101) else (Vi.little ((l.drop s.at_).take n.toNat), s.on n.toNat)) := hide rfl
  generalize Vi.fixed l s n = T at *
  have hlt := h.lt
  have hfr := h.free 1
  have hat := h.ok.le
  have c0 := h.c0
  have c1 := h.c1
  by_cases hc : s.code ≠ 0
  · have HFI := hide (fine_any w A cap g l s false h (by simp [hc]))
    have HT : Hid (T = (0, s)) := by show _ = _; rw [HE.out, if_pos (.inl hc)]
    clear h hc c0 c1 HE
    go_enter Tryz.func138, Tryz.ntmps138
    go_wp2_with fail
    refine HFI.out.mono ?_
    rintro e w2 ⟨rfl, rfl⟩
    go_wp2_with fail
    go_ret
    rw [HT.out]
    exact ⟨rfl, HR.out, But.refl _ _⟩
  · have HFI := hide (fine_any w A cap g l s true h (by simp; omega))
    by_cases hn : n < 0 ∨ 8 < n
    · have HT : Hid (T = (0, s)) := by show _ = _; rw [HE.out, if_pos (.inr hn)]
      clear h hc c0 c1 HE
      rcases hn with hn | hn
      · have hd : decide (n < 0) = true := by simp [hn]
        go_enter Tryz.func138, Tryz.ntmps138
        go_wp2_with fail
        refine HFI.out.mono ?_
        rintro e w2 ⟨rfl, rfl⟩
        go_wp2_with fail
        go_ret
        rw [HT.out]
        exact ⟨rfl, HR.out, But.refl _ _⟩
      · have hd : decide (n < 0) = false := by simp; omega
        have hd2 : decide (8 < n) = true := by simp [hn]
        go_enter Tryz.func138, Tryz.ntmps138
        go_wp2_with fail
        refine HFI.out.mono ?_
        rintro e w2 ⟨rfl, rfl⟩
        go_wp2_with fail
        go_ret
        rw [HT.out]
        exact ⟨rfl, HR.out, But.refl _ _⟩
    · obtain ⟨m, rfl⟩ := Int.eq_ofNat_of_zero_le (show 0 ≤ n by omega)
      have hm8 : m ≤ 8 := by omega
      have hno : ¬ (s.code ≠ 0 ∨ (m : Int) < 0 ∨ 8 < (m : Int)) := by omega
      rw [if_neg hno, Int.toNat_natCast] at HE
      by_cases hlen : l.length < s.at_ + m
      · have HT : Hid (T = (0, s.fail 101)) := by show _ = _; rw [HE.out, if_pos hlen]
        have hn' : (l.length : Int) - (s.at_ : Int) < (m : Int) := by omega
        have HRQ := hide (fun q => HR.out.below (below_drewN (Below.refl w.heap.size w) q))
        have HF := hide (fun q => rfail_end (w.drewN q) A cap g l s (HRQ.out q))
        clear h hc hno hn hlen HE
        go_enter Tryz.func138, Tryz.ntmps138
        go_wp2_with fail
        refine HFI.out.mono ?_
        rintro e w2 ⟨rfl, rfl⟩
        go_wp2_with fail
        go_quiet (fail)
        go_wp2_with fail
        refine (HF.out _).mono ?_
        rintro e w3 ⟨rfl, hr3, hb3⟩
        go_wp2_with fail
        go_ret
        rw [HT.out]
        exact ⟨rfl, hr3, (But.drewN g w _).trans hb3⟩
      · have HT : Hid (T = (Vi.little ((l.drop s.at_).take m), s.on m)) := by show _ = _; rw [HE.out, if_neg hlen]
        have hn' : ¬ (l.length : Int) - (s.at_ : Int) < (m : Int) := by omega
        have hk1 : ∀ W, (Instr.sliceAt 32 (.slice A l.length cap) (some (.int .i64 (s.at_ : Int))) (some (.int .i64 ((s.at_ : Int) + (m : Int)))) none).run Tryz.prog W = .ok (.slice (cutA A cap s.at_) m (cap - s.at_)) W := fun W => by
          have h := run_cut_lh W A l.length cap s.at_ (s.at_ + m) (by omega) (by have := h.arg.le; omega)
          rw [show s.at_ + m - s.at_ = m by omega, Int.natCast_add] at h
          exact h
        have hml : ((l.drop s.at_).take m).length = m := by rw [List.length_take, List.length_drop]; omega
        have HCC := hide (fun q => (HR.out.below (below_drewN (Below.refl w.heap.size w) q)).at_set m (by omega) (by omega))
        have HBB := hide (fun q => (But.drewN g w q).trans (But.setCell g 1 (w.drewN q) (.int .i64 ((s.at_ : Int) + (m : Int)))))
        have HFX := hide (fun q r => refFixed_any (cutA A cap s.at_) (cap - s.at_) m _ (((w.drewN q).setCell ⟨g, 1, none⟩ (.int .i64 ((s.at_ : Int) + (m : Int)))).drewN r) hml hm8 ((((HCC.out q).below (below_drewN (Below.refl _ _) r)).arg.cut s.at_ hat).first m).reads)
        have HA : Hid ((s.at_ : Int) + (m : Int) - (m : Int) = s.at_) := by show _ = _; omega
        have ha := HA.out
        clear h hc hno hn hlen HE hml
        generalize (l.drop s.at_).take m = u at *
        go_enter Tryz.func138, Tryz.ntmps138
        go_wp2_with fail
        refine HFI.out.mono ?_
        rintro e w2 ⟨rfl, rfl⟩
        go_wp2_with fail
        go_quiet (fail)
        go_wp2_with fail
        go_quiet (first | (go_at_call 120; exact Calls.quiet_of_same ((HFX.out _ _).mono fun _ _ ⟨h1, h2⟩ => ⟨h1, h2.symm⟩)))
        go_wp2_with fail
        go_ret
        rw [HT.out]
        exact ⟨rfl, (HCC.out _).below (below_drewN (Below.refl _ _) _), (HBB.out _).trans (But.drewN g _ _)⟩
end Go.Proofs.YtfdppggdgdnnaaaGreatDoor
