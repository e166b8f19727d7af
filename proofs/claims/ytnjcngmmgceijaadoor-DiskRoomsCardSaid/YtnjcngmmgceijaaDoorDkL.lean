/-
  The names of a disk are synced; the small calls that only tell: SyncDir, Len, Synced, Used, Calls, Down, Arm.
-/
import Derived.Test.YtnjcngmmgceijaaDoorDkE
namespace Go.Proofs.YtnjcngmmgceijaaDoor
open Go.RowKit Go.Maps

set_option maxRecDepth 100000 in
set_option maxHeartbeats 1000000 in
theorem syncDir_any (Bd : Nat) (s : Dk.St) (S : Nat → Prop) (p : Nat → Addr) (w : World) (hs : SentsD w p) (hS : Safe S p) (h : IsDisk w Bd s S) (hft : Dk.Fit s) :
    Calls Tryd.prog 17 #[.pointer (some ⟨Bd, 0, none⟩)] w fun e w' => e = .returned (errR p s.syncDir.1) ∧ Next w Bd S s.syncDir.2 w' := by
  obtain ⟨nb, db, sv, ids, row, h⟩ := h
  have hBS : ∀ b, b = Bd → S b := fun b e => e ▸ h.mBd
  have HCH := hide (begin_any Bd nb db sv ids row s S p w hs h hft.armed (fun e => hS.g 9 (by omega) (by omega) (show S 4 from e ▸ h.mBd)))
  have hft' := hft.begin
  obtain ⟨r, hr⟩ : ∃ r, r = s.syncDir := ⟨_, rfl⟩
  rw [← hr]
  unfold Dk.St.syncDir at hr
  have HBS := hide hBS
  clear hs h hft hBS
  generalize s.begin = t at *
  cases hd : t.down with
  | true =>
    rw [hd] at hr HCH
    simp only [if_true] at hr HCH
    subst hr
    have hne := fun w' => neq_nilD (p 9) w'
    unfold errV at hne
    clear hft'
    go_enter Tryd.func17, Tryd.ntmps17
    go_wp2_with (first
      | (go_at_call 31; refine HCH.out.mono ?_; rintro e w1 ⟨rfl, hd1, hc1, hz1⟩; have HD1 := hide hd1; have HC1 := hide hc1; clear hd1 hc1; simp only [errR, errV])
      | fail)
    go_ret
    exact ⟨rfl, ⟨_, _, _, _, _, HD1.out.mono up_self⟩, HC1.out.mono HBS.out⟩
  | false =>
    rw [hd] at hr HCH
    simp only [Bool.false_eq_true, if_false] at hr HCH
    subst hr
    have hcb := hft'.calls
    have HCB := hide hcb
    have hw5 : IntKind.i64.wrap (t.calls + 1) = t.calls + 1 := IntWalk.i64_in _ (by omega)
    clear hft' hcb
    go_enter Tryd.func17, Tryd.ntmps17
    go_wp2_with (first
      | (go_at_call 31; refine HCH.out.mono ?_; rintro e w1 ⟨rfl, hd1, hc1, hz1⟩; have HD1 := hide hd1; have HC1 := hide hc1; have HZ1 := hide hz1; have HSE := hide (settle_any Bd nb db sv ids row t S t.since.length w1 hd1 HCB.out.2 (Nat.le_refl _)); obtain ⟨Av, cv, hsv⟩ : ∃ Av cv, sv = .slice Av t.since.length cv := (by rcases hd1.since.2 with ⟨e, h0⟩ | ⟨g, cap, cur, e, _⟩; exact ⟨none, 0, by rw [e, h0]⟩; exact ⟨_, _, e⟩); have c3 : w1.cell? ⟨Bd, 3, none⟩ = some sv := box_cell hd1.box 3; rw [hsv] at c3; clear hd1 hc1 hz1; simp only [errR])
      | (go_at_call 35; refine HSE.out.mono ?_; rintro e w2 ⟨rfl, hd2, hc2⟩; have HD2 := hide hd2; have HC2 := hide hc2; have c5 : w2.cell? ⟨Bd, 5, none⟩ = some (.int .i64 t.calls) := box_cell hd2.box 5; have f5 := box_free hd2.box 5; clear hd2 hc2)
      | fail)
    go_ret
    have hd3 := HD2.out.set 5 (.int .i64 (t.calls + 1)) { t.settle t.since.length with calls := t.calls + 1 } rfl rfl rfl rfl rfl (by show t.calls ≤ t.calls + 1; omega)
    exact ⟨rfl, ⟨_, _, _, _, _, hd3.mono up_self⟩, ((HC1.out.mono HBS.out).then (HC2.out.mono fun b e => by rcases e with e | e; exact e ▸ HD1.out.mBd; exact e ▸ HD1.out.mdb)).then (Chg.setCell _ _ _ _ HD1.out.mBd)⟩

/-- How many bytes a file has, or none. -/
def Dk.St.lenOf (s : Dk.St) (k : Dk.Nm) : Int := match s.find k with | (none, some i) => ((s.files i).bytes.length : Int) | _ => 0
def Dk.St.syncedOf (s : Dk.St) (k : Dk.Nm) : Int := match s.find k with | (none, some i) => ((s.files i).synced : Int) | _ => 0

set_option maxRecDepth 100000 in
theorem len_any (Bd : Nat) (s : Dk.St) (S : Nat → Prop) (p : Nat → Addr) (k : Dk.Nm) (w : World) (hs : SentsD w p) (h : IsDisk w Bd s S) (hk : k.length ≤ 9223372036854775807) :
    Calls Tryd.prog 24 #[.pointer (some ⟨Bd, 0, none⟩), encStr k] w fun e w' => e = .returned (.tuple #[.int .i64 (s.lenOf k), errR p (s.find k).1]) ∧ ∃ q, w' = w.drewN q := by
  obtain ⟨nb, db, sv, ids, row, h⟩ := h
  have HF := hide (find_any Bd nb db sv ids row s S p k w hs h hk)
  have HD := hide h
  obtain ⟨r, hr⟩ : ∃ r, r = s.lenOf k := ⟨_, rfl⟩
  rw [← hr]
  unfold Dk.St.lenOf at hr
  clear h hs
  rcases find_cases s k with ⟨j, hf⟩ | ⟨i, hf, hnm⟩
  · rw [hf] at hr HF ⊢
    simp only at hr HF ⊢
    subst hr
    have hne := fun w' => neq_nilD (p j) w'
    unfold errV at hne
    clear hf
    go_enter Tryd.func24, Tryd.ntmps24
    go_wp2_with (first
      | (go_at_call 42; refine HF.out.mono ?_; rintro e w1 ⟨rfl, q, hq⟩; simp only [errR, errV, fileV])
      | fail)
    go_returns
    exact ⟨rfl, q, rfl⟩
  · rw [hf] at hr HF ⊢
    simp only at hr HF ⊢
    subst hr
    have hi := (HD.out.nref k i hnm).1
    have hfi := HD.out.file i hi
    obtain ⟨A, c, hrv, -⟩ := hfi.row.arg
    have hc1' : w.cell? ⟨i, 1, none⟩ = some (row i) := box_cell hfi.box 1
    rw [hrv] at hc1'
    clear hf hnm hi hfi hrv
    go_enter Tryd.func24, Tryd.ntmps24
    go_wp2_with (first
      | (go_at_call 42; refine HF.out.mono ?_; rintro e w1 ⟨rfl, q, rfl⟩; have hc2 : (w.drewN q).cell? ⟨i, 1, none⟩ = some (.slice A (s.files i).bytes.length c) := hc1'; have HQ : Hid (∃ q', w.drewN q = w.drewN q') := hide ⟨q, rfl⟩; generalize w.drewN q = w1 at *; simp only [errR, errV, fileV])
      | fail)
    go_returns
    exact ⟨rfl, HQ.out⟩

set_option maxRecDepth 100000 in
theorem used_any (Bd : Nat) (s : Dk.St) (S : Nat → Prop) (w : World) (h : IsDisk w Bd s S) : Calls Tryd.prog 25 #[.pointer (some ⟨Bd, 0, none⟩)] w fun e w' => e = .returned (.int .i64 s.used) ∧ w' = w := by
  obtain ⟨nb, db, sv, ids, row, h⟩ := h
  have c : w.cell? ⟨Bd, 4, none⟩ = some (.int .i64 s.used) := box_cell h.box 4
  clear h
  go_enter Tryd.func25, Tryd.ntmps25
  go_wp2_with fail
  go_ret
  exact ⟨rfl, rfl⟩
set_option maxRecDepth 100000 in
theorem calls_any (Bd : Nat) (s : Dk.St) (S : Nat → Prop) (w : World) (h : IsDisk w Bd s S) : Calls Tryd.prog 22 #[.pointer (some ⟨Bd, 0, none⟩)] w fun e w' => e = .returned (.int .i64 s.calls) ∧ w' = w := by
  obtain ⟨nb, db, sv, ids, row, h⟩ := h
  have c : w.cell? ⟨Bd, 5, none⟩ = some (.int .i64 s.calls) := box_cell h.box 5
  clear h
  go_enter Tryd.func22, Tryd.ntmps22
  go_wp2_with fail
  go_ret
  exact ⟨rfl, rfl⟩
set_option maxRecDepth 100000 in
theorem down_any (Bd : Nat) (s : Dk.St) (S : Nat → Prop) (w : World) (h : IsDisk w Bd s S) : Calls Tryd.prog 21 #[.pointer (some ⟨Bd, 0, none⟩)] w fun e w' => e = .returned (.bool s.down) ∧ w' = w := by
  obtain ⟨nb, db, sv, ids, row, h⟩ := h
  have c : w.cell? ⟨Bd, 7, none⟩ = some (.bool s.down) := box_cell h.box 7
  clear h
  go_enter Tryd.func21, Tryd.ntmps21
  go_wp2_with fail
  go_ret
  exact ⟨rfl, rfl⟩
set_option maxRecDepth 100000 in
theorem arm_any (Bd : Nat) (s : Dk.St) (S : Nat → Prop) (n : Int) (w : World) (h : IsDisk w Bd s S) : Calls Tryd.prog 18 #[.pointer (some ⟨Bd, 0, none⟩), .int .i64 n] w fun e w' => e = .returned (.tuple #[]) ∧ IsDisk w' Bd { s with armed := n } S ∧ Chg S w w' ∧ w'.heap.size = w.heap.size := by
  obtain ⟨nb, db, sv, ids, row, h⟩ := h
  have c : w.cell? ⟨Bd, 6, none⟩ = some (.int .i64 s.armed) := box_cell h.box 6
  have f := box_free h.box 6
  have HD := hide h
  clear h
  go_enter Tryd.func18, Tryd.ntmps18
  go_wp2_with fail
  go_end0
  exact ⟨rfl, ⟨_, _, _, _, _, HD.out.set 6 (.int .i64 n) { s with armed := n } rfl rfl rfl rfl rfl (Int.le_refl _)⟩, Chg.setCell _ _ _ _ HD.out.mBd, by simp⟩
end Go.Proofs.YtnjcngmmgceijaaDoor
