/-
  The names of a disk are synced; the small calls that only tell: SyncDir, Len, Synced, Used, Calls, Down, Arm.
  A new disk; a pick of a crash.
-/
import Derived.Test.YtnjcngmmgceijaaDoorDkE
namespace Go.Proofs.YtnjcngmmgceijaaDoor
open Go.RowKit Go.Maps

set_option maxRecDepth 100000 in
set_option maxHeartbeats 1000000 in
theorem syncDir_any (Bd : Nat) (s : Dk.St) (S : Nat → Prop) (p : Nat → Addr) (w : World) (hs : SentsD w p) (hS : Safe S p) (h : IsDisk w Bd s S) (hft : Dk.Fit s) :
    Calls Tryd.prog 17 #[.pointer (some ⟨Bd, 0, none⟩)] w fun e w' => e = .returned (errR p s.syncDir.1) ∧ Next w Bd S s.syncDir.2 w' := by
  obtain ⟨nb, db, sv, ids, row, h⟩ := h
  have hBS : ∀ b, b = Bd → S b := fun b e => e ▸ h.mBd
  have HCH := hide (begin_any Bd nb db sv ids row s S p w hs h hft.armed (fun e => hS.g 9 (by omega) (by omega) (show S 4 from e ▸ h.mBd)))
  have hft' := hft.begin
  obtain ⟨r, hr⟩ : ∃ r, r = s.syncDir := ⟨_, rfl⟩
  rw [← hr]
  unfold Dk.St.syncDir at hr
  have HBS := hide hBS
  clear hs h hft hBS
  generalize s.begin = t at *
  cases hd : t.down with
  | true =>
    rw [hd] at hr HCH
    simp only [if_true] at hr HCH
    subst hr
    have hne := fun w' => neq_nilD (p 9) w'
    unfold errV at hne
    clear hft'
    go_enter Tryd.func17, Tryd.ntmps17
    go_wp2_with (first
      | (go_at_call 31; refine HCH.out.mono ?_; rintro e w1 ⟨rfl, hd1, hc1, hz1⟩; have HD1 := hide hd1; have HC1 := hide hc1; clear hd1 hc1; simp only [errR, errV])
      | fail)
    go_ret
    exact ⟨rfl, ⟨_, _, _, _, _, HD1.out.mono up_self⟩, HC1.out.mono HBS.out⟩
  | false =>
    rw [hd] at hr HCH
    simp only [Bool.false_eq_true, if_false] at hr HCH
    subst hr
    have hcb := hft'.calls
    have HCB := hide hcb
    have hw5 : IntKind.i64.wrap (t.calls + 1) = t.calls + 1 := IntWalk.i64_in _ (by omega)
    clear hft' hcb
    go_enter Tryd.func17, Tryd.ntmps17
    go_wp2_with (first
      | (go_at_call 31; refine HCH.out.mono ?_; rintro e w1 ⟨rfl, hd1, hc1, hz1⟩; have HD1 := hide hd1; have HC1 := hide hc1; have HZ1 := hide hz1; have HSE := hide (settle_any Bd nb db sv ids row t S t.since.length w1 hd1 HCB.out.2 (Nat.le_refl _)); obtain ⟨Av, cv, hsv⟩ : ∃ Av cv, sv = .slice Av t.since.length cv := (by rcases hd1.since.2 with ⟨e, h0⟩ | ⟨g, cap, cur, e, _⟩; exact ⟨none, 0, by rw [e, h0]⟩; exact ⟨_, _, e⟩); have c3 : w1.cell? ⟨Bd, 3, none⟩ = some sv := box_cell hd1.box 3; rw [hsv] at c3; clear hd1 hc1 hz1; simp only [errR])
      | (go_at_call 35; refine HSE.out.mono ?_; rintro e w2 ⟨rfl, hd2, hc2⟩; have HD2 := hide hd2; have HC2 := hide hc2; have c5 : w2.cell? ⟨Bd, 5, none⟩ = some (.int .i64 t.calls) := box_cell hd2.box 5; have f5 := box_free hd2.box 5; clear hd2 hc2)
      | fail)
    go_ret
    have hd3 := HD2.out.set 5 (.int .i64 (t.calls + 1)) { t.settle t.since.length with calls := t.calls + 1 } rfl rfl rfl rfl rfl (by show t.calls ≤ t.calls + 1; omega)
    exact ⟨rfl, ⟨_, _, _, _, _, hd3.mono up_self⟩, ((HC1.out.mono HBS.out).then (HC2.out.mono fun b e => by rcases e with e | e; exact e ▸ HD1.out.mBd; exact e ▸ HD1.out.mdb)).then (Chg.setCell _ _ _ _ HD1.out.mBd)⟩

/-- How many bytes a file has, or none. -/
def Dk.St.lenOf (s : Dk.St) (k : Dk.Nm) : Int := match s.find k with | (none, some i) => ((s.files i).bytes.length : Int) | _ => 0
def Dk.St.syncedOf (s : Dk.St) (k : Dk.Nm) : Int := match s.find k with | (none, some i) => ((s.files i).synced : Int) | _ => 0

set_option maxRecDepth 100000 in
theorem len_any (Bd : Nat) (s : Dk.St) (S : Nat → Prop) (p : Nat → Addr) (k : Dk.Nm) (w : World) (hs : SentsD w p) (h : IsDisk w Bd s S) (hk : k.length ≤ 9223372036854775807) :
    Calls Tryd.prog 24 #[.pointer (some ⟨Bd, 0, none⟩), encStr k] w fun e w' => e = .returned (.tuple #[.int .i64 (s.lenOf k), errR p (s.find k).1]) ∧ ∃ q, w' = w.drewN q := by
  obtain ⟨nb, db, sv, ids, row, h⟩ := h
  have HF := hide (find_any Bd nb db sv ids row s S p k w hs h hk)
  have HD := hide h
  obtain ⟨r, hr⟩ : ∃ r, r = s.lenOf k := ⟨_, rfl⟩
  rw [← hr]
  unfold Dk.St.lenOf at hr
  clear h hs
  rcases find_cases s k with ⟨j, hf⟩ | ⟨i, hf, hnm⟩
  · rw [hf] at hr HF ⊢
    simp only at hr HF ⊢
    subst hr
    have hne := fun w' => neq_nilD (p j) w'
    unfold errV at hne
    clear hf
    go_enter Tryd.func24, Tryd.ntmps24
    go_wp2_with (first
      | (go_at_call 42; refine HF.out.mono ?_; rintro e w1 ⟨rfl, q, hq⟩; simp only [errR, errV, fileV])
      | fail)
    go_returns
    exact ⟨rfl, q, rfl⟩
  · rw [hf] at hr HF ⊢
    simp only at hr HF ⊢
    subst hr
    have hi := (HD.out.nref k i hnm).1
    have hfi := HD.out.file i hi
    obtain ⟨A, c, hrv, -⟩ := hfi.row.arg
    have hc1' : w.cell? ⟨i, 1, none⟩ = some (row i) := box_cell hfi.box 1
    rw [hrv] at hc1'
    clear hf hnm hi hfi hrv
    go_enter Tryd.func24, Tryd.ntmps24
    go_wp2_with (first
      | (go_at_call 42; refine HF.out.mono ?_; rintro e w1 ⟨rfl, q, rfl⟩; have hc2 : (w.drewN q).cell? ⟨i, 1, none⟩ = some (.slice A (s.files i).bytes.length c) := hc1'; have HQ : Hid (∃ q', w.drewN q = w.drewN q') := hide ⟨q, rfl⟩; generalize w.drewN q = w1 at *; simp only [errR, errV, fileV])
      | fail)
    go_returns
    exact ⟨rfl, HQ.out⟩

set_option maxRecDepth 100000 in
theorem used_any (Bd : Nat) (s : Dk.St) (S : Nat → Prop) (w : World) (h : IsDisk w Bd s S) : Calls Tryd.prog 25 #[.pointer (some ⟨Bd, 0, none⟩)] w fun e w' => e = .returned (.int .i64 s.used) ∧ w' = w := by
  obtain ⟨nb, db, sv, ids, row, h⟩ := h
  have c : w.cell? ⟨Bd, 4, none⟩ = some (.int .i64 s.used) := box_cell h.box 4
  clear h
  go_enter Tryd.func25, Tryd.ntmps25
  go_wp2_with fail
  go_ret
  exact ⟨rfl, rfl⟩
set_option maxRecDepth 100000 in
theorem calls_any (Bd : Nat) (s : Dk.St) (S : Nat → Prop) (w : World) (h : IsDisk w Bd s S) : Calls Tryd.prog 22 #[.pointer (some ⟨Bd, 0, none⟩)] w fun e w' => e = .returned (.int .i64 s.calls) ∧ w' = w := by
  obtain ⟨nb, db, sv, ids, row, h⟩ := h
  have c : w.cell? ⟨Bd, 5, none⟩ = some (.int .i64 s.calls) := box_cell h.box 5
  clear h
  go_enter Tryd.func22, Tryd.ntmps22
  go_wp2_with fail
  go_ret
  exact ⟨rfl, rfl⟩
set_option maxRecDepth 100000 in
theorem down_any (Bd : Nat) (s : Dk.St) (S : Nat → Prop) (w : World) (h : IsDisk w Bd s S) : Calls Tryd.prog 21 #[.pointer (some ⟨Bd, 0, none⟩)] w fun e w' => e = .returned (.bool s.down) ∧ w' = w := by
  obtain ⟨nb, db, sv, ids, row, h⟩ := h
  have c : w.cell? ⟨Bd, 7, none⟩ = some (.bool s.down) := box_cell h.box 7
  clear h
  go_enter Tryd.func21, Tryd.ntmps21
  go_wp2_with fail
  go_ret
  exact ⟨rfl, rfl⟩
set_option maxRecDepth 100000 in
theorem arm_any (Bd : Nat) (s : Dk.St) (S : Nat → Prop) (n : Int) (w : World) (h : IsDisk w Bd s S) : Calls Tryd.prog 18 #[.pointer (some ⟨Bd, 0, none⟩), .int .i64 n] w fun e w' => e = .returned (.tuple #[]) ∧ IsDisk w' Bd { s with armed := n } S ∧ Chg S w w' ∧ w'.heap.size = w.heap.size := by
  obtain ⟨nb, db, sv, ids, row, h⟩ := h
  have c : w.cell? ⟨Bd, 6, none⟩ = some (.int .i64 s.armed) := box_cell h.box 6
  have f := box_free h.box 6
  have HD := hide h
  clear h
  go_enter Tryd.func18, Tryd.ntmps18
  go_wp2_with fail
  go_end0
  exact ⟨rfl, ⟨_, _, _, _, _, HD.out.set 6 (.int .i64 n) { s with armed := n } rfl rfl rfl rfl rfl (Int.le_refl _)⟩, Chg.setCell _ _ _ _ HD.out.mBd, by simp⟩
end Go.Proofs.YtnjcngmmgceijaaDoor

namespace Go.Proofs.YtnjcngmmgceijaaDoor
open Go.RowKit Go.Maps

/-- Numbers that are read from a row. -/
structure IntsArg (w : World) (A : Option Addr) (c : Nat) (zs : List Int) : Prop where
  le : zs.length ≤ c
  max : c ≤ 9223372036854775807
  nil : A = none → c = 0
  get : ∀ j, j < zs.length → ∃ b off, A = some ⟨b, off, none⟩ ∧ w.cell? ⟨b, off + j, none⟩ = some (.int .i64 (zs.getD j 0))
  fit : ∀ z ∈ zs, -9223372036854775808 ≤ z ∧ z ≤ 9223372036854775807

theorem pick_eq (v : Int) (m : Nat) : (if v.tmod ((m : Int) + 1) < 0 then v.tmod ((m : Int) + 1) + ((m : Int) + 1) else v.tmod ((m : Int) + 1)) = ((v % ((m : Int) + 1)).toNat : Int) := by
  have h1 := Int.emod_nonneg v (show ((m : Int) + 1) ≠ 0 by omega)
  have h2 := Int.emod_lt_of_pos v (show (0 : Int) < (m : Int) + 1 by omega)
  have h3 := Int.tmod_eq_emod (a := v) (b := (m : Int) + 1)
  have h4 : ((m : Int) + 1).natAbs = m + 1 := by omega
  rw [h4] at h3
  generalize v % ((m : Int) + 1) = x at *
  generalize v.tmod ((m : Int) + 1) = y at *
  split at h3 <;> split <;> omega

set_option maxRecDepth 100000 in
theorem pick_any (A : Option Addr) (c n : Nat) (zs : List Int) (i most : Nat) (w : World) (h : IntsArg w A c zs) (hn : zs.length = n) (hi : i ≤ 1099511627776) (hm : most ≤ 1099511627776) :
    Calls Tryd.prog 36 #[.slice A n c, .int .i64 (i : Int), .int .i64 (most : Int)] w fun e w' => e = .returned (.int .i64 ((Dk.pick zs i most : Nat) : Int)) ∧ w' = w := by
  have hw1 : IntKind.i64.wrap ((most : Int) + 1) = (most : Int) + 1 := IntWalk.i64_in _ (by omega)
  by_cases hlt : i < n
  · obtain ⟨b, off, rfl, hc⟩ := h.get i (by omega)
    have hv := h.fit (zs.getD i 0) (by rw [show zs.getD i 0 = zs[i]'(by omega) from by simp [List.getD, show i < zs.length by omega]]; exact List.getElem_mem _)
    have hp : ((Dk.pick zs i most : Nat) : Int) = ((zs.getD i 0 % ((most : Int) + 1)).toNat : Int) := by
      unfold Dk.pick; rw [if_pos (by omega)]
    have hq := pick_eq (zs.getD i 0) most
    have hl := h.le
    have hx := h.max
    have h0 : ((most : Int) + 1 == 0) = false := by rw [beq_eq_false_iff_ne]; omega
    have hd : decide ((n : Int) ≤ (i : Int)) = false := by simp; omega
    generalize ((Dk.pick zs i most : Nat) : Int) = P at *
    generalize zs.getD i 0 = v at *
    have hb := Int.lt_tmod_of_pos v (show (0 : Int) < (most : Int) + 1 by omega)
    have hb2 := Int.tmod_lt_of_pos v (show (0 : Int) < (most : Int) + 1 by omega)
    have HQ := hide (hp.trans hq.symm)
    clear hp hq h
    subst hn
    by_cases hneg : v.tmod ((most : Int) + 1) < 0
    · have d1 : decide (v.tmod ((most : Int) + 1) < 0) = true := by simp [hneg]
      have hw2 : IntKind.i64.wrap (v.tmod ((most : Int) + 1) + ((most : Int) + 1)) = v.tmod ((most : Int) + 1) + ((most : Int) + 1) := IntWalk.i64_in _ (by omega)
      have hw3 : IntKind.i64.wrap (v.tmod ((most : Int) + 1)) = v.tmod ((most : Int) + 1) := IntWalk.i64_in _ (by omega)
      go_enter Tryd.func36, Tryd.ntmps36
      go_wp2_with fail
      go_ret
      exact ⟨by rw [HQ.out, if_pos hneg]; rfl, rfl⟩
    · have d1 : decide (v.tmod ((most : Int) + 1) < 0) = false := by simp; omega
      have hw3 : IntKind.i64.wrap (v.tmod ((most : Int) + 1)) = v.tmod ((most : Int) + 1) := IntWalk.i64_in _ (by omega)
      go_enter Tryd.func36, Tryd.ntmps36
      go_wp2_with fail
      go_ret
      exact ⟨by rw [HQ.out, if_neg (by omega)]; rfl, rfl⟩
  · have hp : Dk.pick zs i most = 0 := by unfold Dk.pick; rw [if_neg (by omega)]
    have hd : decide ((n : Int) ≤ (i : Int)) = true := by simp; omega
    rw [hp]
    clear h
    go_enter Tryd.func36, Tryd.ntmps36
    go_wp2_with fail
    go_ret
    exact ⟨rfl, rfl⟩

set_option maxRecDepth 100000 in
theorem new_bad (room : Int) (p : Nat → Addr) (w : World) (hs : SentsD w p) (hr : room < 1 ∨ 4194304 < room) :
    Calls Tryd.prog 9 #[.int .i64 room] w fun e w' => e = .returned (.tuple #[.pointer none, errR p (some 4)]) ∧ ∃ q, w' = w.drewN q := by
  have g4 := hs.c4
  clear hs
  by_cases h1 : room < 1
  · have d1 : decide (room < 1) = true := by simp [h1]
    go_enter Tryd.func9, Tryd.ntmps9
    go_wp2_with fail
    go_quiet (fail)
    go_wp2_with fail
    go_returns
    exact ⟨rfl, nq, rfl⟩
  · have d1 : decide (room < 1) = false := by simp; omega
    have h2 : 4194304 < room := by omega
    have d2 : decide (4194304 < room) = true := by simp [h2]
    go_enter Tryd.func9, Tryd.ntmps9
    go_wp2_with fail
    go_quiet (fail)
    go_wp2_with fail
    go_returns
    exact ⟨rfl, nq, rfl⟩
set_option maxRecDepth 100000 in
theorem new_any (room : Int) (w : World) (h1 : 1 ≤ room) (h2 : room ≤ 4194304) :
    Calls Tryd.prog 9 #[.int .i64 room] w fun e w' => ∃ Bd, e = .returned (.tuple #[.pointer (some ⟨Bd, 0, none⟩), .nilIface]) ∧ w.heap.size ≤ Bd ∧ IsDisk w' Bd (Dk.St.new room) (fun k => w.heap.size ≤ k ∧ k < w'.heap.size) ∧ Below w.heap.size w w' := by
  have d1 : decide (room < 1) = false := by simp; omega
  have d2 : decide (4194304 < room) = false := by simp; omega
  have mk : ∀ W, (Instr.makeMap 55 none).run Tryd.prog W = .ok (.map (some W.heap.size)) (W.alloc (.map #[] 0)) := fun W => rfl
  go_enter Tryd.func9, Tryd.ntmps9
  go_wp2_with fail
  go_returns
  have ha := NamesAt.made w
  have hb := NamesAt.made (w.alloc (.map #[] 0))
  have b1 : Below w.heap.size w (w.alloc (.map #[] 0)) := balloc (Below.refl _ _) _
  have z1 : (w.alloc (.map #[] 0)).heap.size = w.heap.size + 1 := by simp
  generalize w.alloc (.map #[] 0) = W1 at *
  have b2 : Below W1.heap.size W1 (W1.alloc (.map #[] 0)) := balloc (Below.refl _ _) _
  have z2 : (W1.alloc (.map #[] 0)).heap.size = W1.heap.size + 1 := by simp
  generalize W1.alloc (.map #[] 0) = W2 at *
  refine ⟨w.heap.size + 1 + 1, rfl, by omega, ⟨w.heap.size, w.heap.size + 1, .slice none 0 0, [], fun _ => .nilIface, ?_⟩, ?_⟩
  · have b3 : Below W2.heap.size W2 (W2.alloc (.cells #[.int .i64 room, .map (some w.heap.size), .map (some (w.heap.size + 1)), .slice none 0 0, .int .i64 0, .int .i64 0, .int .i64 0, .bool false] 58)) := balloc (Below.refl _ _) _
    have hn := heap_alloc_new W2 (.cells #[.int .i64 room, .map (some w.heap.size), .map (some (w.heap.size + 1)), .slice none 0 0, .int .i64 0, .int .i64 0, .int .i64 0, .bool false] 58)
    have z3 : (W2.alloc (.cells #[.int .i64 room, .map (some w.heap.size), .map (some (w.heap.size + 1)), .slice none 0 0, .int .i64 0, .int .i64 0, .int .i64 0, .bool false] 58)).heap.size = W2.heap.size + 1 := by simp
    generalize W2.alloc (.cells #[.int .i64 room, .map (some w.heap.size), .map (some (w.heap.size + 1)), .slice none 0 0, .int .i64 0, .int .i64 0, .int .i64 0, .bool false] 58) = W3 at *
    rw [z2, z1] at hn
    rw [z1] at hb
    exact { box := hn, names := ha.same ((b3.block _ (by omega)).trans (b2.block _ (by omega))), dur := ⟨0, hb.same (b3.block _ (by omega)), Nat.le_refl _⟩, ne := by omega, since := World.ownsRow_nil _ _ _ _, nodup := List.nodup_nil, file := fun i hi => absurd hi List.not_mem_nil, apart := fun i hi => absurd hi List.not_mem_nil, nref := fun k i hk => (by cases hk), dref := fun k i hk => (by cases hk), sref := fun m hm => absurd hm List.not_mem_nil, calls := Int.le_refl _, mBd := (by show _ ∧ _; omega), mnb := (by show _ ∧ _; omega), mdb := (by show _ ∧ _; omega), msv := fun g hg => (by cases hg), mid := fun i hi => absurd hi List.not_mem_nil, mrow := fun i hi => absurd hi List.not_mem_nil }
  · exact (b1.trans (b2.mono (by omega))).trans ((balloc (Below.refl _ _) _ : Below W2.heap.size W2 _).mono (by omega))
end Go.Proofs.YtnjcngmmgceijaaDoor
