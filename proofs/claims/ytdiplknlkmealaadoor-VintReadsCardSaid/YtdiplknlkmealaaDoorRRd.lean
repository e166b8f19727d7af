/-
  The reference's own reader in memory: its five cells. The walks through its Fine and its fail.
-/
import Derived.Test.YtdiplknlkmealaaDoorVMeth2
import Derived.Test.YtdiplknlkmealaaDoorVFault
import Derived.Test.YtdiplknlkmealaaDoorVSays
import Derived.Test.YtdiplknlkmealaaDoorVFixed
namespace Go.Proofs.YtdiplknlkmealaaDoor
open Go.RowKit

theorem Arg.butx {g : Nat} {w w' : World} {A : Option Addr} {cap : Nat} {l : List UInt8} (h : Arg w A cap l) (hb : But g w w') (hne : ∀ b off, A = some ⟨b, off, none⟩ → l ≠ [] → b ≠ g) : Arg w' A cap l := by
  refine ⟨h.le, h.max, h.nil, ?_⟩
  rcases h.reads with h0 | ⟨b, off, e, hlt, hc⟩
  · exact .inl h0
  · by_cases hl : l = []
    · exact .inl hl
    · exact .inr ⟨b, off, e, Nat.lt_of_lt_of_le hlt hb.size, fun k hk => (hb.cell hlt (hne b off e hl)).trans (hc k hk)⟩
/-- The reference's reader of l (which lies at A) at block g, in the state s. -/
structure RRd (w : World) (A : Option Addr) (cap g : Nat) (l : List UInt8) (s : Vi.Rs) : Prop where
  lt : g < w.heap.size
  free : ∀ k, w.frozen? ⟨g, k, none⟩ = false
  ok : Vi.Ok l s
  c0 : w.cell? ⟨g, 0, none⟩ = some (.slice A l.length cap)
  c1 : w.cell? ⟨g, 1, none⟩ = some (.int .i64 (s.at_ : Int))
  c2 : w.cell? ⟨g, 2, none⟩ = some (.int .i64 (s.code : Int))
  c3 : w.cell? ⟨g, 3, none⟩ = some (.bool s.pos.isSome)
  c4 : w.cell? ⟨g, 4, none⟩ = some (.int .i64 ((s.pos.getD 0 : Nat) : Int))
  arg : Arg w A cap l
  ne : ∀ b off, A = some ⟨b, off, none⟩ → l ≠ [] → b ≠ g
  past : ∀ k, 5 ≤ k → w.cell? ⟨g, k, none⟩ = none
theorem RRd.below {w w' : World} {A : Option Addr} {cap g : Nat} {l : List UInt8} {s : Vi.Rs} (h : RRd w A cap g l s) (hb : Below w.heap.size w w') : RRd w' A cap g l s :=
  ⟨Nat.lt_of_lt_of_le h.lt hb.size, fun k => (hb.frozen (p := ⟨g, k, none⟩) h.lt).trans (h.free k), h.ok, (hb.cell (p := ⟨g, 0, none⟩) h.lt).trans h.c0, (hb.cell (p := ⟨g, 1, none⟩) h.lt).trans h.c1, (hb.cell (p := ⟨g, 2, none⟩) h.lt).trans h.c2, (hb.cell (p := ⟨g, 3, none⟩) h.lt).trans h.c3, (hb.cell (p := ⟨g, 4, none⟩) h.lt).trans h.c4, h.arg.below hb (Nat.le_refl _), h.ne, fun k hk => (hb.cell (p := ⟨g, k, none⟩) h.lt).trans (h.past k hk)⟩
/-- What another block's reader does leaves this one as it is. -/
theorem RRd.but {w w' : World} {A : Option Addr} {cap g g' : Nat} {l : List UInt8} {s : Vi.Rs} (h : RRd w A cap g l s) (hb : But g' w w') (hg : g ≠ g') (hne : ∀ b off, A = some ⟨b, off, none⟩ → l ≠ [] → b ≠ g') : RRd w' A cap g l s :=
  ⟨Nat.lt_of_lt_of_le h.lt hb.size, fun k => (hb.frozen h.lt hg).trans (h.free k), h.ok, (hb.cell h.lt hg).trans h.c0, (hb.cell h.lt hg).trans h.c1, (hb.cell h.lt hg).trans h.c2, (hb.cell h.lt hg).trans h.c3, (hb.cell h.lt hg).trans h.c4, h.arg.butx hb hne, h.ne, fun k hk => (hb.cell h.lt hg).trans (h.past k hk)⟩
theorem RRd.at_set {w : World} {A : Option Addr} {cap g : Nat} {l : List UInt8} {s : Vi.Rs} (h : RRd w A cap g l s) (k : Nat) (hk : s.at_ + k ≤ l.length) (hz : s.code = 0) : RRd (w.setCell ⟨g, 1, none⟩ (.int .i64 ((s.at_ : Int) + (k : Int)))) A cap g l (s.on k) := by
  have hb : But g w (w.setCell ⟨g, 1, none⟩ (.int .i64 ((s.at_ : Int) + (k : Int)))) := But.setCell _ _ _ _
  refine ⟨Nat.lt_of_lt_of_le h.lt hb.size, fun j => (World.frozen?_setCell _ _ _ _).trans (h.free j), ⟨hk, ?_⟩, ?_, World.cell?_setCell_same _ _ _ h.c1, ?_, ?_, ?_, h.arg.butx hb h.ne, h.ne, fun j hj => by rw [World.cell?_setCell_other _ _ _ _ (by intro e; injection e; omega)]; exact h.past j hj⟩
  · rcases h.ok.code with h | h | ⟨h, h'⟩
    · exact .inl h
    · exact .inr (.inl h)
    · omega
  · rw [World.cell?_setCell_other _ _ _ _ (by simp)]; exact h.c0
  · rw [World.cell?_setCell_other _ _ _ _ (by simp)]; exact h.c2
  · rw [World.cell?_setCell_other _ _ _ _ (by simp)]; exact h.c3
  · rw [World.cell?_setCell_other _ _ _ _ (by simp)]; exact h.c4
theorem RRd.bad_set {w : World} {A : Option Addr} {cap g : Nat} {l : List UInt8} {s s' : Vi.Rs} (h : RRd w A cap g l s) (hok : Vi.Ok l s') (hat : s'.at_ = s.at_) :
    RRd (((w.setCell ⟨g, 2, none⟩ (.int .i64 (s'.code : Int))).setCell ⟨g, 3, none⟩ (.bool s'.pos.isSome)).setCell ⟨g, 4, none⟩ (.int .i64 ((s'.pos.getD 0 : Nat) : Int))) A cap g l s' ∧
    But g w (((w.setCell ⟨g, 2, none⟩ (.int .i64 (s'.code : Int))).setCell ⟨g, 3, none⟩ (.bool s'.pos.isSome)).setCell ⟨g, 4, none⟩ (.int .i64 ((s'.pos.getD 0 : Nat) : Int))) := by
  have hb : But g w (((w.setCell ⟨g, 2, none⟩ (.int .i64 (s'.code : Int))).setCell ⟨g, 3, none⟩ (.bool s'.pos.isSome)).setCell ⟨g, 4, none⟩ (.int .i64 ((s'.pos.getD 0 : Nat) : Int))) := ((But.setCell _ _ _ _).trans (But.setCell _ _ _ _)).trans (But.setCell _ _ _ _)
  refine ⟨⟨Nat.lt_of_lt_of_le h.lt hb.size, fun j => ?_, hok, ?_, ?_, ?_, ?_, ?_, h.arg.butx hb h.ne, h.ne, fun j hj => by rw [World.cell?_setCell_other _ _ _ _ (by intro e; injection e; omega), World.cell?_setCell_other _ _ _ _ (by intro e; injection e; omega), World.cell?_setCell_other _ _ _ _ (by intro e; injection e; omega)]; exact h.past j hj⟩, hb⟩
  · rw [World.frozen?_setCell, World.frozen?_setCell, World.frozen?_setCell]; exact h.free j
  · rw [World.cell?_setCell_other _ _ _ _ (by simp), World.cell?_setCell_other _ _ _ _ (by simp), World.cell?_setCell_other _ _ _ _ (by simp)]; exact h.c0
  · rw [World.cell?_setCell_other _ _ _ _ (by simp), World.cell?_setCell_other _ _ _ _ (by simp), World.cell?_setCell_other _ _ _ _ (by simp), hat]; exact h.c1
  · rw [World.cell?_setCell_other _ _ _ _ (by simp), World.cell?_setCell_other _ _ _ _ (by simp)]; exact World.cell?_setCell_same _ _ _ h.c2
  · rw [World.cell?_setCell_other _ _ _ _ (by simp)]; exact World.cell?_setCell_same (u := .bool s.pos.isSome) _ _ _ (by rw [World.cell?_setCell_other _ _ _ _ (by simp)]; exact h.c3)
  · exact World.cell?_setCell_same (u := .int .i64 ((s.pos.getD 0 : Nat) : Int)) _ _ _ (by rw [World.cell?_setCell_other _ _ _ _ (by simp), World.cell?_setCell_other _ _ _ _ (by simp)]; exact h.c4)

/-- The program's reader stays as it is, whatever the reference's does. -/
theorem Rdr.butx {w w' : World} {p : Nat → Addr} {g gx cap : Nat} {A : Option Addr} {l : List UInt8} {s s' : Vi.Rs} (h : Rdr w p g l s) (hx : RRd w A cap gx l s') (hb : But gx w w') (hg : g ≠ gx) : Rdr w' p g l s := by
  obtain ⟨C, capc, E, h0, h1, h2, ha, hne, he⟩ := h.ex
  have nob : ∀ b off, C = some ⟨b, off, none⟩ → l ≠ [] → b ≠ gx := by
    rintro b off e hl rfl
    rcases ha.reads with h9 | ⟨b', off', e', hlt, hc⟩
    · exact hl h9
    · rw [e] at e'
      injection e' with e'
      injection e' with e1 e2
      subst e1 e2
      have hc0 := hc 0 (List.length_pos_iff.2 hl)
      have q0 := hx.c0
      have q1 := hx.c1
      have q2 := hx.c2
      have q3 := hx.c3
      have q4 := hx.c4
      by_cases h5 : 5 ≤ off + 0
      · rw [hx.past _ h5] at hc0; cases hc0
      · have : off = 0 ∨ off = 1 ∨ off = 2 ∨ off = 3 ∨ off = 4 := by omega
        rcases this with rfl | rfl | rfl | rfl | rfl
        · rw [q0] at hc0; cases hc0
        · rw [q1] at hc0; cases hc0
        · rw [q2] at hc0; cases hc0
        · rw [q3] at hc0; cases hc0
        · rw [q4] at hc0; cases hc0
  have he' : ErrIs w' p g E s := by
    rcases he with h | h | ⟨a, q, a1, a2, a3, a4, a5, a6, a7⟩
    · exact .inl h
    · exact .inr (.inl h)
    · have hax : a ≠ gx := by
        rintro rfl
        rw [hx.c0] at a6; cases a6
      exact .inr (.inr ⟨a, q, a1, a2, a3, a4, Nat.lt_of_lt_of_le a5 hb.size, (hb.cell a5 hax).trans a6, (hb.cell a5 hax).trans a7⟩)
  exact ⟨Nat.lt_of_lt_of_le h.lt hb.size, fun k => (hb.frozen h.lt hg).trans (h.free k), h.ok, C, capc, E, (hb.cell h.lt hg).trans h0, (hb.cell h.lt hg).trans h1, (hb.cell h.lt hg).trans h2, ha.butx hb nob, hne, he'⟩

theorem fine_any (w : World) (A : Option Addr) (cap g : Nat) (l : List UInt8) (s : Vi.Rs) (b : Bool) (h : RRd w A cap g l s) (hb : ((s.code : Int) == 0) = b) :
    Calls Tryd.prog 60 #[.pointer (some ⟨g, 0, none⟩)] w fun e w' => e = .returned (.bool b) ∧ w = w' := by
  have h2 := h.c2
  have hl := h.lt
  clear h
  generalize (s.code : Int) = c at *
  go_enter Tryd.func60, Tryd.ntmps60
  go_wp2_with fail
  go_ret
  exact ⟨rfl, rfl⟩

set_option maxRecDepth 100000 in
theorem rfail_end (w : World) (A : Option Addr) (cap g : Nat) (l : List UInt8) (s : Vi.Rs) (h : RRd w A cap g l s) :
    Calls Tryd.prog 61 #[.pointer (some ⟨g, 0, none⟩), .int .i64 101] w fun e w' => e = .returned (.tuple #[]) ∧ RRd w' A cap g l (s.fail 101) ∧ But g w w' := by
  have HB := hide (bare_any 101 w)
  have HR := hide h
  clear h
  go_enter Tryd.func61, Tryd.ntmps61
  go_wp2_with fail
  refine HB.out.mono ?_
  rintro e w1 ⟨rfl, hb⟩
  have hr := HR.out.below hb
  have HS := hide (hr.bad_set (hr.ok.fail (c := 101) (.inl rfl)) rfl)
  have HBB := hide (But.of_below (g := g) hb)
  have f2 := hr.free 2
  have f3 := hr.free 3
  have f4 := hr.free 4
  have c2 := hr.c2
  have c3 := hr.c3
  have c4 := hr.c4
  have hl := hr.lt
  clear hr hb HB HR
  go_wp2_with fail
  go_returns
  exact ⟨rfl, HS.out.1, HBB.out.trans HS.out.2⟩
set_option maxRecDepth 100000 in
theorem rfail_at (w : World) (A : Option Addr) (cap g : Nat) (l : List UInt8) (s : Vi.Rs) (c : Nat) (hc : c = 103 ∨ c = 105) (h : RRd w A cap g l s) :
    Calls Tryd.prog 61 #[.pointer (some ⟨g, 0, none⟩), .int .i64 c] w fun e w' => e = .returned (.tuple #[]) ∧ RRd w' A cap g l (s.fail c) ∧ But g w w' := by
  have HB := hide (placed_any c s.at_ w (by omega))
  have HR := hide h
  have hl0 := h.lt
  have hc1 := h.c1
  have hne : ((c : Int) == 101) = false := by simp; omega
  have hok := h.ok.fail (c := c) (by omega)
  have hfl : s.fail c = ⟨s.at_, c, some s.at_⟩ := by unfold Vi.Rs.fail; rw [if_neg (by omega)]
  rw [hfl] at hok
  have HOK := hide hok
  have HFL := hide hfl
  clear h hc hok hfl
  go_enter Tryd.func61, Tryd.ntmps61
  go_wp2_with fail
  refine HB.out.mono ?_
  rintro e w1 ⟨rfl, hb⟩
  have hr := HR.out.below hb
  have HS := hide (hr.bad_set HOK.out rfl)
  have HBB := hide (But.of_below (g := g) hb)
  have f2 := hr.free 2
  have f3 := hr.free 3
  have f4 := hr.free 4
  have c2 := hr.c2
  have c3 := hr.c3
  have c4 := hr.c4
  have hl := hr.lt
  clear hr hb HB HR
  go_wp2_with fail
  go_end0
  rw [HFL.out]
  exact ⟨rfl, HS.out.1, HBB.out.trans HS.out.2⟩
theorem rfail_any (w : World) (A : Option Addr) (cap g : Nat) (l : List UInt8) (s : Vi.Rs) (c : Nat) (hc : c = 101 ∨ c = 103 ∨ c = 105) (h : RRd w A cap g l s) :
    Calls Tryd.prog 61 #[.pointer (some ⟨g, 0, none⟩), .int .i64 c] w fun e w' => e = .returned (.tuple #[]) ∧ RRd w' A cap g l (s.fail c) ∧ But g w w' := by
  rcases hc with rfl | rfl | rfl
  · exact rfail_end w A cap g l s h
  · exact rfail_at w A cap g l s 103 (.inl rfl) h
  · exact rfail_at w A cap g l s 105 (.inr rfl) h
end Go.Proofs.YtdiplknlkmealaaDoor
