/-
  The reference's own reader in memory: its five cells. The walks through its Fine and its fail.
  The walks through the reference's reader's Num and Int.
  The walk through the reference's reader's Bytes.
  The walks through the reference's Fixed, and its reader's.
-/
import Derived.Test.YtoaioijgmbhhnaaDoorVMeth
import Derived.Test.YtoaioijgmbhhnaaDoorVFault
import Derived.Test.YtoaioijgmbhhnaaDoorVSays
import Derived.Test.YtoaioijgmbhhnaaDoorVFixed
import Derived.Test.YtoaioijgmbhhnaaDoorHSame
import Derived.Test.YtoaioijgmbhhnaaDoorRegion
namespace Go.Proofs.YtoaioijgmbhhnaaDoor
open Go.RowKit

theorem Arg.butx {g : Nat} {w w' : World} {A : Option Addr} {cap : Nat} {l : List UInt8} (h : Arg w A cap l) (hb : But g w w') (hne : ∀ b off, A = some ⟨b, off, none⟩ → l ≠ [] → b ≠ g) : Arg w' A cap l := by
  refine ⟨h.le, h.max, h.nil, ?_⟩
  rcases h.reads with h0 | ⟨b, off, e, hlt, hc⟩
  · exact .inl h0
  · by_cases hl : l = []
    · exact .inl hl
    · exact .inr ⟨b, off, e, Nat.lt_of_lt_of_le hlt hb.size, fun k hk => (hb.cell hlt (hne b off e hl)).trans (hc k hk)⟩
/-- The reference's reader of l (which lies at A) at block g, in the state s. -/
structure RRd (w : World) (A : Option Addr) (cap g : Nat) (l : List UInt8) (s : Vi.Rs) : Prop where
  lt : g < w.heap.size
  free : ∀ k, w.frozen? ⟨g, k, none⟩ = false
  ok : Vi.Ok l s
  c0 : w.cell? ⟨g, 0, none⟩ = some (.slice A l.length cap)
  c1 : w.cell? ⟨g, 1, none⟩ = some (.int .i64 (s.at_ : Int))
  c2 : w.cell? ⟨g, 2, none⟩ = some (.int .i64 (s.code : Int))
  c3 : w.cell? ⟨g, 3, none⟩ = some (.bool s.pos.isSome)
  c4 : w.cell? ⟨g, 4, none⟩ = some (.int .i64 ((s.pos.getD 0 : Nat) : Int))
  arg : Arg w A cap l
  ne : ∀ b off, A = some ⟨b, off, none⟩ → l ≠ [] → b ≠ g
  past : ∀ k, 5 ≤ k → w.cell? ⟨g, k, none⟩ = none
theorem RRd.below {w w' : World} {A : Option Addr} {cap g : Nat} {l : List UInt8} {s : Vi.Rs} (h : RRd w A cap g l s) (hb : Below w.heap.size w w') : RRd w' A cap g l s :=
  ⟨Nat.lt_of_lt_of_le h.lt hb.size, fun k => (hb.frozen (p := ⟨g, k, none⟩) h.lt).trans (h.free k), h.ok, (hb.cell (p := ⟨g, 0, none⟩) h.lt).trans h.c0, (hb.cell (p := ⟨g, 1, none⟩) h.lt).trans h.c1, (hb.cell (p := ⟨g, 2, none⟩) h.lt).trans h.c2, (hb.cell (p := ⟨g, 3, none⟩) h.lt).trans h.c3, (hb.cell (p := ⟨g, 4, none⟩) h.lt).trans h.c4, h.arg.below hb (Nat.le_refl _), h.ne, fun k hk => (hb.cell (p := ⟨g, k, none⟩) h.lt).trans (h.past k hk)⟩
/-- What another block's reader does leaves this one as it is. -/
theorem RRd.but {w w' : World} {A : Option Addr} {cap g g' : Nat} {l : List UInt8} {s : Vi.Rs} (h : RRd w A cap g l s) (hb : But g' w w') (hg : g ≠ g') (hne : ∀ b off, A = some ⟨b, off, none⟩ → l ≠ [] → b ≠ g') : RRd w' A cap g l s :=
  ⟨Nat.lt_of_lt_of_le h.lt hb.size, fun k => (hb.frozen h.lt hg).trans (h.free k), h.ok, (hb.cell h.lt hg).trans h.c0, (hb.cell h.lt hg).trans h.c1, (hb.cell h.lt hg).trans h.c2, (hb.cell h.lt hg).trans h.c3, (hb.cell h.lt hg).trans h.c4, h.arg.butx hb hne, h.ne, fun k hk => (hb.cell h.lt hg).trans (h.past k hk)⟩
theorem RRd.at_set {w : World} {A : Option Addr} {cap g : Nat} {l : List UInt8} {s : Vi.Rs} (h : RRd w A cap g l s) (k : Nat) (hk : s.at_ + k ≤ l.length) (hz : s.code = 0) : RRd (w.setCell ⟨g, 1, none⟩ (.int .i64 ((s.at_ : Int) + (k : Int)))) A cap g l (s.on k) := by
  have hb : But g w (w.setCell ⟨g, 1, none⟩ (.int .i64 ((s.at_ : Int) + (k : Int)))) := But.setCell _ _ _ _
  refine ⟨Nat.lt_of_lt_of_le h.lt hb.size, fun j => (World.frozen?_setCell _ _ _ _).trans (h.free j), ⟨hk, ?_⟩, ?_, World.cell?_setCell_same _ _ _ h.c1, ?_, ?_, ?_, h.arg.butx hb h.ne, h.ne, fun j hj => by rw [World.cell?_setCell_other _ _ _ _ (by intro e; injection e; omega)]; exact h.past j hj⟩
  · rcases h.ok.code with h | h | ⟨h, h'⟩
    · exact .inl h
    · exact .inr (.inl h)
    · omega
  · rw [World.cell?_setCell_other _ _ _ _ (by simp)]; exact h.c0
  · rw [World.cell?_setCell_other _ _ _ _ (by simp)]; exact h.c2
  · rw [World.cell?_setCell_other _ _ _ _ (by simp)]; exact h.c3
  · rw [World.cell?_setCell_other _ _ _ _ (by simp)]; exact h.c4
theorem RRd.bad_set {w : World} {A : Option Addr} {cap g : Nat} {l : List UInt8} {s s' : Vi.Rs} (h : RRd w A cap g l s) (hok : Vi.Ok l s') (hat : s'.at_ = s.at_) :
    RRd (((w.setCell ⟨g, 2, none⟩ (.int .i64 (s'.code : Int))).setCell ⟨g, 3, none⟩ (.bool s'.pos.isSome)).setCell ⟨g, 4, none⟩ (.int .i64 ((s'.pos.getD 0 : Nat) : Int))) A cap g l s' ∧
    But g w (((w.setCell ⟨g, 2, none⟩ (.int .i64 (s'.code : Int))).setCell ⟨g, 3, none⟩ (.bool s'.pos.isSome)).setCell ⟨g, 4, none⟩ (.int .i64 ((s'.pos.getD 0 : Nat) : Int))) := by
  have hb : But g w (((w.setCell ⟨g, 2, none⟩ (.int .i64 (s'.code : Int))).setCell ⟨g, 3, none⟩ (.bool s'.pos.isSome)).setCell ⟨g, 4, none⟩ (.int .i64 ((s'.pos.getD 0 : Nat) : Int))) := ((But.setCell _ _ _ _).trans (But.setCell _ _ _ _)).trans (But.setCell _ _ _ _)
  refine ⟨⟨Nat.lt_of_lt_of_le h.lt hb.size, fun j => ?_, hok, ?_, ?_, ?_, ?_, ?_, h.arg.butx hb h.ne, h.ne, fun j hj => by rw [World.cell?_setCell_other _ _ _ _ (by intro e; injection e; omega), World.cell?_setCell_other _ _ _ _ (by intro e; injection e; omega), World.cell?_setCell_other _ _ _ _ (by intro e; injection e; omega)]; exact h.past j hj⟩, hb⟩
  · rw [World.frozen?_setCell, World.frozen?_setCell, World.frozen?_setCell]; exact h.free j
  · rw [World.cell?_setCell_other _ _ _ _ (by simp), World.cell?_setCell_other _ _ _ _ (by simp), World.cell?_setCell_other _ _ _ _ (by simp)]; exact h.c0
  · rw [World.cell?_setCell_other _ _ _ _ (by simp), World.cell?_setCell_other _ _ _ _ (by simp), World.cell?_setCell_other _ _ _ _ (by simp), hat]; exact h.c1
  · rw [World.cell?_setCell_other _ _ _ _ (by simp), World.cell?_setCell_other _ _ _ _ (by simp)]; exact World.cell?_setCell_same _ _ _ h.c2
  · rw [World.cell?_setCell_other _ _ _ _ (by simp)]; exact World.cell?_setCell_same (u := .bool s.pos.isSome) _ _ _ (by rw [World.cell?_setCell_other _ _ _ _ (by simp)]; exact h.c3)
  · exact World.cell?_setCell_same (u := .int .i64 ((s.pos.getD 0 : Nat) : Int)) _ _ _ (by rw [World.cell?_setCell_other _ _ _ _ (by simp), World.cell?_setCell_other _ _ _ _ (by simp)]; exact h.c4)

/-- The program's reader stays as it is, whatever the reference's does. -/
theorem Rdr.butx {w w' : World} {p : Nat → Addr} {g gx cap : Nat} {A : Option Addr} {l : List UInt8} {s s' : Vi.Rs} (h : Rdr w p g l s) (hx : RRd w A cap gx l s') (hb : But gx w w') (hg : g ≠ gx) : Rdr w' p g l s := by
  obtain ⟨C, capc, E, h0, h1, h2, ha, hne, he⟩ := h.ex
  have nob : ∀ b off, C = some ⟨b, off, none⟩ → l ≠ [] → b ≠ gx := by
    rintro b off e hl rfl
    rcases ha.reads with h9 | ⟨b', off', e', hlt, hc⟩
    · exact hl h9
    · rw [e] at e'
      injection e' with e'
      injection e' with e1 e2
      subst e1 e2
      have hc0 := hc 0 (List.length_pos_iff.2 hl)
      have q0 := hx.c0
      have q1 := hx.c1
      have q2 := hx.c2
      have q3 := hx.c3
      have q4 := hx.c4
      by_cases h5 : 5 ≤ off + 0
      · rw [hx.past _ h5] at hc0; cases hc0
      · have : off = 0 ∨ off = 1 ∨ off = 2 ∨ off = 3 ∨ off = 4 := by omega
        rcases this with rfl | rfl | rfl | rfl | rfl
        · rw [q0] at hc0; cases hc0
        · rw [q1] at hc0; cases hc0
        · rw [q2] at hc0; cases hc0
        · rw [q3] at hc0; cases hc0
        · rw [q4] at hc0; cases hc0
  have he' : ErrIs w' p g E s := by
    rcases he with h | h | ⟨a, q, a1, a2, a3, a4, a5, a6, a7⟩
    · exact .inl h
    · exact .inr (.inl h)
    · have hax : a ≠ gx := by
        rintro rfl
        rw [hx.c0] at a6; cases a6
      exact .inr (.inr ⟨a, q, a1, a2, a3, a4, Nat.lt_of_lt_of_le a5 hb.size, (hb.cell a5 hax).trans a6, (hb.cell a5 hax).trans a7⟩)
  exact ⟨Nat.lt_of_lt_of_le h.lt hb.size, fun k => (hb.frozen h.lt hg).trans (h.free k), h.ok, C, capc, E, (hb.cell h.lt hg).trans h0, (hb.cell h.lt hg).trans h1, (hb.cell h.lt hg).trans h2, ha.butx hb nob, hne, he'⟩

theorem fine_any (w : World) (A : Option Addr) (cap g : Nat) (l : List UInt8) (s : Vi.Rs) (b : Bool) (h : RRd w A cap g l s) (hb : ((s.code : Int) == 0) = b) :
    Calls Tryd.prog 57 #[.pointer (some ⟨g, 0, none⟩)] w fun e w' => e = .returned (.bool b) ∧ w = w' := by
  have h2 := h.c2
  have hl := h.lt
  clear h
  generalize (s.code : Int) = c at *
  go_enter Tryd.func57, Tryd.ntmps57
  go_wp2_with fail
  go_ret
  exact ⟨rfl, rfl⟩

set_option maxRecDepth 100000 in
theorem rfail_end (w : World) (A : Option Addr) (cap g : Nat) (l : List UInt8) (s : Vi.Rs) (h : RRd w A cap g l s) :
    Calls Tryd.prog 94 #[.pointer (some ⟨g, 0, none⟩), .int .i64 101] w fun e w' => e = .returned (.tuple #[]) ∧ RRd w' A cap g l (s.fail 101) ∧ But g w w' := by
  have HB := hide (bare_any 101 w)
  have HR := hide h
  clear h
  go_enter Tryd.func94, Tryd.ntmps94
  go_wp2_with fail
  refine HB.out.mono ?_
  rintro e w1 ⟨rfl, hb⟩
  have hr := HR.out.below hb
  have HS := hide (hr.bad_set (hr.ok.fail (c := 101) (.inl rfl)) rfl)
  have HBB := hide (But.of_below (g := g) hb)
  have f2 := hr.free 2
  have f3 := hr.free 3
  have f4 := hr.free 4
  have c2 := hr.c2
  have c3 := hr.c3
  have c4 := hr.c4
  have hl := hr.lt
  clear hr hb HB HR
  go_wp2_with fail
  go_returns
  exact ⟨rfl, HS.out.1, HBB.out.trans HS.out.2⟩
set_option maxRecDepth 100000 in
theorem rfail_at (w : World) (A : Option Addr) (cap g : Nat) (l : List UInt8) (s : Vi.Rs) (c : Nat) (hc : c = 103 ∨ c = 105) (h : RRd w A cap g l s) :
    Calls Tryd.prog 94 #[.pointer (some ⟨g, 0, none⟩), .int .i64 c] w fun e w' => e = .returned (.tuple #[]) ∧ RRd w' A cap g l (s.fail c) ∧ But g w w' := by
  have HB := hide (placed_any c s.at_ w (by omega))
  have HR := hide h
  have hl0 := h.lt
  have hc1 := h.c1
  have hne : ((c : Int) == 101) = false := by simp; omega
  have hok := h.ok.fail (c := c) (by omega)
  have hfl : s.fail c = ⟨s.at_, c, some s.at_⟩ := by unfold Vi.Rs.fail; rw [if_neg (by omega)]
  rw [hfl] at hok
  have HOK := hide hok
  have HFL := hide hfl
  clear h hc hok hfl
  go_enter Tryd.func94, Tryd.ntmps94
  go_wp2_with fail
  refine HB.out.mono ?_
  rintro e w1 ⟨rfl, hb⟩
  have hr := HR.out.below hb
  have HS := hide (hr.bad_set HOK.out rfl)
  have HBB := hide (But.of_below (g := g) hb)
  have f2 := hr.free 2
  have f3 := hr.free 3
  have f4 := hr.free 4
  have c2 := hr.c2
  have c3 := hr.c3
  have c4 := hr.c4
  have hl := hr.lt
  clear hr hb HB HR
  go_wp2_with fail
  go_end0
  rw [HFL.out]
  exact ⟨rfl, HS.out.1, HBB.out.trans HS.out.2⟩
theorem rfail_any (w : World) (A : Option Addr) (cap g : Nat) (l : List UInt8) (s : Vi.Rs) (c : Nat) (hc : c = 101 ∨ c = 103 ∨ c = 105) (h : RRd w A cap g l s) :
    Calls Tryd.prog 94 #[.pointer (some ⟨g, 0, none⟩), .int .i64 c] w fun e w' => e = .returned (.tuple #[]) ∧ RRd w' A cap g l (s.fail c) ∧ But g w w' := by
  rcases hc with rfl | rfl | rfl
  · exact rfail_end w A cap g l s h
  · exact rfail_at w A cap g l s 103 (.inl rfl) h
  · exact rfail_at w A cap g l s 105 (.inr rfl) h
end Go.Proofs.YtoaioijgmbhhnaaDoor

namespace Go.Proofs.YtoaioijgmbhhnaaDoor
open Go.RowKit

set_option maxRecDepth 100000 in
set_option maxHeartbeats 1000000 in
theorem rnum_good (w : World) (A : Option Addr) (cap g : Nat) (l : List UInt8) (s : Vi.Rs) (most : Nat) (h : RRd w A cap g l s) (hl : l.length ≤ 1000000) (hc : s.code = 0) (a k c : Nat) (hg : Vi.get 0 0 (l.drop s.at_) = (a, k, c)) (h3 : c = 0 ∨ c = 101 ∨ c = 103) (hk : k ≤ l.length - s.at_) :
    Calls Tryd.prog 56 #[.pointer (some ⟨g, 0, none⟩), .int .u64 most] w fun e w' =>
      if c ≠ 0 then e = .returned (.int .u64 0) ∧ RRd w' A cap g l (s.fail c) ∧ But g w w'
      else if most < a then e = .returned (.int .u64 0) ∧ RRd w' A cap g l (s.fail 105) ∧ But g w w'
      else e = .returned (.int .u64 a) ∧ RRd w' A cap g l (s.on k) ∧ But g w w' := by
  have HFI := hide (fine_any w A cap g l s true h (by simp [hc]))
  have HFA := hide (fun q c hc => rfail_any (w.drewN q) A cap g l s c hc (h.below (below_drewN (Below.refl w.heap.size w) q)))
  have hle := h.ok.le
  have HG := hide (fun W hW => refGet_at (cutA A cap s.at_) (cap - s.at_) (l.length - s.at_) (l.drop s.at_) W a k c (by rw [List.length_drop]) hg (by omega) (((h.arg.below (w' := W) hW (Nat.le_refl _)).cut s.at_ hle).reads))
  have HAT := hide (fun q => (h.below (below_drewN (Below.refl w.heap.size w) q)).at_set k (by omega) hc)
  have HBT := hide (fun q => (But.drewN g w q).trans (But.setCell g 1 (w.drewN q) (.int .i64 ((s.at_ : Int) + (k : Int)))))
  have HBQ := hide (fun q => But.drewN g w q)
  have k1 := fun W => run_cut_l W A l.length cap s.at_ hle
  have hcap := h.arg.le
  have c0 := h.c0
  have c1 := h.c1
  have f1 := h.free 1
  have hlt := h.lt
  clear h hg hc
  go_enter Tryd.func56, Tryd.ntmps56
  go_wp2_with fail
  refine HFI.out.mono ?_
  rintro e w0 ⟨rfl, rfl⟩
  go_wp2_with fail
  go_quiet (first | (go_at_call 93; exact Calls.quiet_of_same ((HG.out _ (below_drewN (Below.refl _ _) _)).mono fun _ _ ⟨h1, h2⟩ => ⟨h1, h2.symm⟩)))
  clear k1 HG
  by_cases hc0 : c = 0
  · subst hc0
    by_cases hm : most < a
    · have hm' : (most : Int) < (a : Int) := by omega
      have HM := hide hm
      have HF := hide (HFA.out nq 105 (by omega))
      clear hm
      go_wp2_with fail
      refine HF.out.mono ?_
      rintro e w1 ⟨rfl, hr1, hb1⟩
      go_wp2_with fail
      go_ret
      exact ⟨rfl, hr1, (HBQ.out nq).trans hb1⟩
    · have hm' : ¬ (most : Int) < (a : Int) := by omega
      have HM := hide hm
      clear hm
      go_wp2_with fail
      go_ret
      exact ⟨rfl, HAT.out nq, HBT.out nq⟩
  · have HC := hide hc0
    have hc1 : ((c : Int) == 0) = false := by simp; omega
    have HF := hide (HFA.out nq c (by omega))
    clear hc0
    go_wp2_with fail
    refine HF.out.mono ?_
    rintro e w1 ⟨rfl, hr1, hb1⟩
    go_wp2_with fail
    go_ret
    exact ⟨rfl, hr1, (HBQ.out nq).trans hb1⟩

set_option maxRecDepth 100000 in
set_option maxHeartbeats 1000000 in
theorem rint_good (w : World) (A : Option Addr) (cap g : Nat) (l : List UInt8) (s : Vi.Rs) (lo hi : Int) (h : RRd w A cap g l s) (hl : l.length ≤ 1000000) (hc : s.code = 0) (a : Int) (k c : Nat) (hg : (Vi.unzz (Vi.get 0 0 (l.drop s.at_)).1, (Vi.get 0 0 (l.drop s.at_)).2) = (a, k, c)) (h3 : c = 0 ∨ c = 101 ∨ c = 103) (hk : k ≤ l.length - s.at_) :
    Calls Tryd.prog 58 #[.pointer (some ⟨g, 0, none⟩), .int .i64 lo, .int .i64 hi] w fun e w' =>
      if c ≠ 0 then e = .returned (.int .i64 0) ∧ RRd w' A cap g l (s.fail c) ∧ But g w w'
      else if a < lo ∨ hi < a then e = .returned (.int .i64 0) ∧ RRd w' A cap g l (s.fail 105) ∧ But g w w'
      else e = .returned (.int .i64 a) ∧ RRd w' A cap g l (s.on k) ∧ But g w w' := by
  have HFI := hide (fine_any w A cap g l s true h (by simp [hc]))
  have HFA := hide (fun q c hc => rfail_any (w.drewN q) A cap g l s c hc (h.below (below_drewN (Below.refl w.heap.size w) q)))
  have hle := h.ok.le
  have HG := hide (fun W hW => refGetInt_at (cutA A cap s.at_) (cap - s.at_) (l.length - s.at_) (l.drop s.at_) W a k c (by rw [List.length_drop]) hg (by omega) (((h.arg.below (w' := W) hW (Nat.le_refl _)).cut s.at_ hle).reads))
  have HAT := hide (fun q => (h.below (below_drewN (Below.refl w.heap.size w) q)).at_set k (by omega) hc)
  have HBT := hide (fun q => (But.drewN g w q).trans (But.setCell g 1 (w.drewN q) (.int .i64 ((s.at_ : Int) + (k : Int)))))
  have HBQ := hide (fun q => But.drewN g w q)
  have k1 := fun W => run_cut_l W A l.length cap s.at_ hle
  have hcap := h.arg.le
  have c0 := h.c0
  have c1 := h.c1
  have f1 := h.free 1
  have hlt := h.lt
  clear h hg hc
  go_enter Tryd.func58, Tryd.ntmps58
  go_wp2_with fail
  refine HFI.out.mono ?_
  rintro e w0 ⟨rfl, rfl⟩
  go_wp2_with fail
  go_quiet (first | (go_at_call 95; exact Calls.quiet_of_same ((HG.out _ (below_drewN (Below.refl _ _) _)).mono fun _ _ ⟨h1, h2⟩ => ⟨h1, h2.symm⟩)))
  clear k1 HG
  by_cases hc0 : c = 0
  · subst hc0
    by_cases hm : a < lo
    · have HM := hide (show a < lo ∨ hi < a from .inl hm)
      have HF := hide (HFA.out nq 105 (by omega))
      go_wp2_with fail
      refine HF.out.mono ?_
      rintro e w1 ⟨rfl, hr1, hb1⟩
      go_wp2_with fail
      go_ret
      exact ⟨rfl, hr1, (HBQ.out nq).trans hb1⟩
    · by_cases hm2 : hi < a
      · have HM := hide (show a < lo ∨ hi < a from .inr hm2)
        have HF := hide (HFA.out nq 105 (by omega))
        go_wp2_with fail
        refine HF.out.mono ?_
        rintro e w1 ⟨rfl, hr1, hb1⟩
        go_wp2_with fail
        go_ret
        exact ⟨rfl, hr1, (HBQ.out nq).trans hb1⟩
      · have HM := hide (show ¬ (a < lo ∨ hi < a) by omega)
        go_wp2_with fail
        go_ret
        exact ⟨rfl, HAT.out nq, HBT.out nq⟩
  · have HC := hide hc0
    have hc1 : ((c : Int) == 0) = false := by simp; omega
    have HF := hide (HFA.out nq c (by omega))
    clear hc0
    go_wp2_with fail
    refine HF.out.mono ?_
    rintro e w1 ⟨rfl, hr1, hb1⟩
    go_wp2_with fail
    go_ret
    exact ⟨rfl, hr1, (HBQ.out nq).trans hb1⟩

set_option maxRecDepth 100000 in
theorem rnum_bad (w : World) (A : Option Addr) (cap g : Nat) (l : List UInt8) (s : Vi.Rs) (most : Nat) (h : RRd w A cap g l s) (hc : s.code ≠ 0) :
    Calls Tryd.prog 56 #[.pointer (some ⟨g, 0, none⟩), .int .u64 most] w fun e w' => e = .returned (.int .u64 0) ∧ w = w' := by
  have HFI := hide (fine_any w A cap g l s false h (by simp [hc]))
  clear h hc
  go_enter Tryd.func56, Tryd.ntmps56
  go_wp2_with fail
  refine HFI.out.mono ?_
  rintro e w0 ⟨rfl, rfl⟩
  go_wp2_with fail
  go_ret
  exact ⟨rfl, rfl⟩

set_option maxRecDepth 100000 in
theorem rint_bad (w : World) (A : Option Addr) (cap g : Nat) (l : List UInt8) (s : Vi.Rs) (lo hi : Int) (h : RRd w A cap g l s) (hc : s.code ≠ 0) :
    Calls Tryd.prog 58 #[.pointer (some ⟨g, 0, none⟩), .int .i64 lo, .int .i64 hi] w fun e w' => e = .returned (.int .i64 0) ∧ w = w' := by
  have HFI := hide (fine_any w A cap g l s false h (by simp [hc]))
  clear h hc
  go_enter Tryd.func58, Tryd.ntmps58
  go_wp2_with fail
  refine HFI.out.mono ?_
  rintro e w0 ⟨rfl, rfl⟩
  go_wp2_with fail
  go_ret
  exact ⟨rfl, rfl⟩

theorem rnum_any (w : World) (A : Option Addr) (cap g : Nat) (l : List UInt8) (s : Vi.Rs) (most : Nat) (h : RRd w A cap g l s) (hl : l.length ≤ 1000000) :
    Calls Tryd.prog 56 #[.pointer (some ⟨g, 0, none⟩), .int .u64 most] w fun e w' => e = .returned (.int .u64 (Vi.num l s most).1) ∧ RRd w' A cap g l (Vi.num l s most).2 ∧ But g w w' := by
  by_cases hc : s.code ≠ 0
  · have e : Vi.num l s most = (0, s) := by unfold Vi.num Vi.peek; rw [if_pos hc]; rfl
    rw [e]
    exact (rnum_bad w A cap g l s most h hc).mono fun e w' ⟨h1, h2⟩ => ⟨h1, h2 ▸ h, h2 ▸ But.refl g w⟩
  · have hc0 : s.code = 0 := by omega
    obtain ⟨_, h5, _, h4⟩ := Vi.getD_bd l s
    refine (rnum_good w A cap g l s most h hl hc0 _ _ _ rfl h4 h5).mono fun e w' hp => ?_
    unfold Vi.num Vi.peek
    rw [if_neg hc]
    simp only
    by_cases h5 : (Vi.get 0 0 (l.drop s.at_)).2.2 ≠ 0
    · rw [if_pos h5] at hp ⊢; exact hp
    · rw [if_neg h5] at hp ⊢
      by_cases h6 : most < (Vi.get 0 0 (l.drop s.at_)).1
      · rw [if_pos h6] at hp ⊢; exact hp
      · rw [if_neg h6] at hp ⊢; exact hp

theorem rint_any (w : World) (A : Option Addr) (cap g : Nat) (l : List UInt8) (s : Vi.Rs) (lo hi : Int) (h : RRd w A cap g l s) (hl : l.length ≤ 1000000) :
    Calls Tryd.prog 58 #[.pointer (some ⟨g, 0, none⟩), .int .i64 lo, .int .i64 hi] w fun e w' => e = .returned (.int .i64 (Vi.int l s lo hi).1) ∧ RRd w' A cap g l (Vi.int l s lo hi).2 ∧ But g w w' := by
  by_cases hc : s.code ≠ 0
  · have e : Vi.int l s lo hi = (0, s) := by unfold Vi.int Vi.peekI; rw [if_pos hc]; rfl
    rw [e]
    exact (rint_bad w A cap g l s lo hi h hc).mono fun e w' ⟨h1, h2⟩ => ⟨h1, h2 ▸ h, h2 ▸ But.refl g w⟩
  · have hc0 : s.code = 0 := by omega
    obtain ⟨_, h5, _, h4⟩ := Vi.getD_bd l s
    refine (rint_good w A cap g l s lo hi h hl hc0 _ _ _ rfl h4 h5).mono fun e w' hp => ?_
    unfold Vi.int Vi.peekI
    rw [if_neg hc]
    simp only
    by_cases h5 : (Vi.get 0 0 (l.drop s.at_)).2.2 ≠ 0
    · rw [if_pos h5] at hp ⊢; exact hp
    · rw [if_neg h5] at hp ⊢
      by_cases h6 : Vi.unzz (Vi.get 0 0 (l.drop s.at_)).1 < lo ∨ hi < Vi.unzz (Vi.get 0 0 (l.drop s.at_)).1
      · rw [if_pos h6] at hp ⊢; exact hp
      · rw [if_neg h6] at hp ⊢; exact hp
end Go.Proofs.YtoaioijgmbhhnaaDoor

namespace Go.Proofs.YtoaioijgmbhhnaaDoor
open Go.RowKit

theorem peek_most {l : List UInt8} {s : Vi.Rs} {most : Nat} : (Vi.peek l s most).1 ≤ most := by
  unfold Vi.peek
  by_cases hc : s.code ≠ 0
  · rw [if_pos hc]; exact Nat.zero_le _
  · rw [if_neg hc]
    simp only
    by_cases hg : (Vi.get 0 0 (l.drop s.at_)).2.2 ≠ 0
    · rw [if_pos hg]; exact Nat.zero_le _
    · rw [if_neg hg]
      by_cases hm : most < (Vi.get 0 0 (l.drop s.at_)).1
      · rw [if_pos hm]; exact Nat.zero_le _
      · rw [if_neg hm]; simp only; omega
theorem RRd.at_back {w : World} {A : Option Addr} {cap g : Nat} {l : List UInt8} {s : Vi.Rs} {k : Nat} (h : RRd w A cap g l (s.on k)) (hok : Vi.Ok l s) : RRd (w.setCell ⟨g, 1, none⟩ (.int .i64 (s.at_ : Int))) A cap g l s := by
  have hb : But g w (w.setCell ⟨g, 1, none⟩ (.int .i64 (s.at_ : Int))) := But.setCell _ _ _ _
  refine ⟨Nat.lt_of_lt_of_le h.lt hb.size, fun j => (World.frozen?_setCell _ _ _ _).trans (h.free j), hok, ?_, World.cell?_setCell_same _ _ _ h.c1, ?_, ?_, ?_, h.arg.butx hb h.ne, h.ne, fun j hj => by rw [World.cell?_setCell_other _ _ _ _ (by intro e; injection e; omega)]; exact h.past j hj⟩
  · rw [World.cell?_setCell_other _ _ _ _ (by simp)]; exact h.c0
  · rw [World.cell?_setCell_other _ _ _ _ (by simp)]; exact h.c2
  · rw [World.cell?_setCell_other _ _ _ _ (by simp)]; exact h.c3
  · rw [World.cell?_setCell_other _ _ _ _ (by simp)]; exact h.c4
theorem Own.two {w : World} {base g : Nat} {v : Value} {l : List UInt8} (h : Own w base v l) (hg : g < base) : Own2 base g l v w := by
  obtain ⟨A, c, rfl, ha⟩ := h.arg
  refine ⟨A, c, rfl, ha, fun b off hA => ?_⟩
  subst hA
  have := (h.lt b rfl).1
  exact ⟨this, by omega⟩
theorem Own2.nil (lo g : Nat) (w : World) : Own2 lo g [] (.slice none 0 0) w := ⟨none, 0, rfl, ⟨by simp, by omega, fun _ => rfl, .inl rfl⟩, fun b off h => by cases h⟩

end Go.Proofs.YtoaioijgmbhhnaaDoor

namespace Go.Proofs.YtoaioijgmbhhnaaDoor
open Go.RowKit

set_option maxRecDepth 100000 in
set_option maxHeartbeats 1000000 in
/-- The lowest byte first, of at most eight. -/
theorem refFixed_any (A : Option Addr) (cap m : Nat) (u : List UInt8) (w : World) (hu : u.length = m) (hm : m ≤ 8) (hr : Reads w A u) :
    Calls Tryd.prog 91 #[.slice A m cap] w fun e w' => e = .returned (.int .u64 (Vi.little u)) ∧ w = w' := by
  have HRD := hide hr
  have HML := hide hu
  clear hr hu
  go_enter Tryd.func91, Tryd.ntmps91
  go_wp2_with fail
  go_loop [3, 4] (fun v i => ∃ k : Nat, k ≤ m ∧ i = .int .i64 k ∧ v = .int .u64 (Vi.little (u.take k))) (fun _ i => m - (intOf i).toNat)
  case atStart => exact ⟨0, Nat.zero_le _, rfl, rfl⟩
  case round =>
    obtain ⟨k, hk, rfl, rfl⟩ := hrel
    by_cases hkm : k < m
    · have hku : k < u.length := by rw [HML.out]; exact hkm
      have hk8 : k < 8 := by omega
      rcases HRD.out with rfl | ⟨b, off, rfl, hb, hcl⟩
      · simp at hku
      have hcell := hcl k hku
      have hlk : (u.take k).length = k := by rw [List.length_take]; omega
      have hsn : u.take (k + 1) = u.take k ++ [u.getD k 0] := by
        rw [List.take_succ_eq_append_getElem hku]; simp [List.getD, hku]
      have hor := little_or (u.take k) (u.getD k 0) (by omega)
      rw [hlk, ← hsn] at hor
      have HSN := hide hsn
      have hb1 := B_lo (u.getD k 0)
      have hb2 := B_hi (u.getD k 0)
      clear hcl hsn hlk hku
      generalize u.getD k 0 = c at *
      generalize Vi.little (u.take k) = v0 at *
      generalize hv1 : Vi.little (u.take (k + 1)) = v1 at *
      have HV1 := hide hv1
      clear hv1
      go_wp2_with fail
      exact ⟨⟨k + 1, by omega, rfl, by rw [HV1.out]⟩, by simp [intOf]; omega⟩
    · obtain rfl : k = m := by omega
      have HU : Hid (u.take k = u) := by show _ = _; rw [← HML.out, List.take_length]
      go_wp2_with fail
      go_ret
      exact ⟨by rw [HU.out]; rfl, rfl⟩

end Go.Proofs.YtoaioijgmbhhnaaDoor
