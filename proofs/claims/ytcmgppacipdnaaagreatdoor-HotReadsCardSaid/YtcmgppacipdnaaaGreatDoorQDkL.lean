/-
  The names of a disk are synced; the small calls that only tell: SyncDir, Len, Synced, Used, Calls, Down, Arm.
  A new disk; a pick of a crash.
  The names of a disk copied: maps.Clone.
  The order of two files by their births; what a disk reads out.
  A copy of bytes in a row of its own: bytes.Clone.
  What a disk reads out: bytes.Clone, Read.
  A range over a function whose rounds are handed what lies in memory: what each round is handed is told of by a relation on the world in which yield is called; and a body that writes cells of its own.
  The files of a map of names, handed over one after another: maps.Values.
  A range over a function whose rounds leave the walks of maps alone: the law of SeqW for a relation that only a walk's object may break.
  The files that an iterator hands over, gathered in a row: slices.AppendSeq, slices.Collect.
  All files of a map of names in a row: maps.Values, slices.Collect.
  slices.SortFunc's contract laid at files.
  A row of files sorted by their births: slices.SortFunc with the order of elderFirst.
  The files of a map of names, the elder first: slices.SortedFunc, elderFirst.
  The files that have a name, the elder first: elderFirst.
  The names of a disk fall back to a copy of the durable ones.
  What a crash keeps of each file, over a list that grows at its end.
  A crash: the names fall back, each file keeps what was synced and what a pick adds.
-/
import Derived.Test.YtcmgppacipdnaaaGreatDoorQDkC
import Derived.Laws.Externs
import Derived.MapKept
import Derived.Test.YtcmgppacipdnaaaGreatDoorQTable
import Derived.Deep.QuietTactic
import Derived.Deep.Cut
import Derived.RangeFuncFrom
import Derived.RangeFuncWrites
import Derived.WalkKit
import Derived.Sort.MapsRangeIn
import Derived.Sort.KeysCollected
import Derived.OwnWalkIn
import Derived.TacticsInMore
import Derived.RegionIn
import Derived.LoopNIn
import Derived.LoopIn
import Derived.Shelf.Abstract
import Derived.Shelf.AbstractIn
import Derived.Shelf.SlLaysF
import Derived.Shelf.SlSortCmp.NoneTotal
namespace Go.Proofs.YtcmgppacipdnaaaGreatDoor
open Go.RowKit Go.Maps

set_option maxRecDepth 100000 in
set_option maxHeartbeats 1000000 in
theorem syncDir_any (Bd : Nat) (s : Dk.St) (S : Nat → Prop) (p : Nat → Addr) (w : World) (hs : SentsD w p) (hS : Safe S p) (h : IsDisk w Bd s S) (hft : Dk.Fit s) :
    Calls Tryz.prog 125 #[.pointer (some ⟨Bd, 0, none⟩)] w fun e w' => e = .returned (errR p s.syncDir.1) ∧ Next w Bd S s.syncDir.2 w' := by
  obtain ⟨nb, db, sv, ids, row, h⟩ := h
  have hBS : ∀ b, b = Bd → S b := fun b e => e ▸ h.mBd
  have HCH := hide (begin_any Bd nb db sv ids row s S p w hs h hft.armed (fun e => hS.g 9 (by omega) (by omega) (show S 7 from e ▸ h.mBd)))
  have hft' := hft.begin
  obtain ⟨r, hr⟩ : ∃ r, r = s.syncDir := ⟨_, rfl⟩
  rw [← hr]
  unfold Dk.St.syncDir at hr
  have HBS := hide hBS
  clear hs h hft hBS
  generalize s.begin = t at *
  cases hd : t.down with
  | true =>
    rw [hd] at hr HCH
    simp only [if_true] at hr HCH
    subst hr
    have hne := fun w' => neq_nilD (p 9) w'
    unfold errV at hne
    clear hft'
    go_enter Tryz.func125, Tryz.ntmps125
    go_wp2_with (first
      | (go_at_call 164; refine HCH.out.mono ?_; rintro e w1 ⟨rfl, hd1, hc1, hz1⟩; have HD1 := hide hd1; have HC1 := hide hc1; clear hd1 hc1; simp only [errR, errV])
      | fail)
    go_ret
    exact ⟨rfl, ⟨_, _, _, _, _, HD1.out.mono up_self⟩, HC1.out.mono HBS.out⟩
  | false =>
    rw [hd] at hr HCH
    simp only [Bool.false_eq_true, if_false] at hr HCH
    subst hr
    have hcb := hft'.calls
    have HCB := hide hcb
    have hw5 : IntKind.i64.wrap (t.calls + 1) = t.calls + 1 := IntWalk.i64_in _ (by omega)
    clear hft' hcb
    go_enter Tryz.func125, Tryz.ntmps125
    go_wp2_with (first
      | (go_at_call 164; refine HCH.out.mono ?_; rintro e w1 ⟨rfl, hd1, hc1, hz1⟩; have HD1 := hide hd1; have HC1 := hide hc1; have HZ1 := hide hz1; have HSE := hide (settle_any Bd nb db sv ids row t S t.since.length w1 hd1 HCB.out.2 (Nat.le_refl _)); obtain ⟨Av, cv, hsv⟩ : ∃ Av cv, sv = .slice Av t.since.length cv := (by rcases hd1.since.2 with ⟨e, h0⟩ | ⟨g, cap, cur, e, _⟩; exact ⟨none, 0, by rw [e, h0]⟩; exact ⟨_, _, e⟩); have c3 : w1.cell? ⟨Bd, 3, none⟩ = some sv := box_cell hd1.box 3; rw [hsv] at c3; clear hd1 hc1 hz1; simp only [errR])
      | (go_at_call 66; refine HSE.out.mono ?_; rintro e w2 ⟨rfl, hd2, hc2⟩; have HD2 := hide hd2; have HC2 := hide hc2; have c5 : w2.cell? ⟨Bd, 5, none⟩ = some (.int .i64 t.calls) := box_cell hd2.box 5; have f5 := box_free hd2.box 5; clear hd2 hc2)
      | fail)
    go_ret
    have hd3 := HD2.out.set 5 (.int .i64 (t.calls + 1)) { t.settle t.since.length with calls := t.calls + 1 } rfl rfl rfl rfl rfl (by show t.calls ≤ t.calls + 1; omega)
    exact ⟨rfl, ⟨_, _, _, _, _, hd3.mono up_self⟩, ((HC1.out.mono HBS.out).then (HC2.out.mono fun b e => by rcases e with e | e; exact e ▸ HD1.out.mBd; exact e ▸ HD1.out.mdb)).then (Chg.setCell _ _ _ _ HD1.out.mBd)⟩

/-- How many bytes a file has, or none. -/
def Dk.St.lenOf (s : Dk.St) (k : Dk.Nm) : Int := match s.find k with | (none, some i) => ((s.files i).bytes.length : Int) | _ => 0
def Dk.St.syncedOf (s : Dk.St) (k : Dk.Nm) : Int := match s.find k with | (none, some i) => ((s.files i).synced : Int) | _ => 0

set_option maxRecDepth 100000 in
theorem len_any (Bd : Nat) (s : Dk.St) (S : Nat → Prop) (p : Nat → Addr) (k : Dk.Nm) (w : World) (hs : SentsD w p) (h : IsDisk w Bd s S) (hk : k.length ≤ 9223372036854775807) :
    Calls Tryz.prog 158 #[.pointer (some ⟨Bd, 0, none⟩), encStr k] w fun e w' => e = .returned (.tuple #[.int .i64 (s.lenOf k), errR p (s.find k).1]) ∧ ∃ q, w' = w.drewN q := by
  obtain ⟨nb, db, sv, ids, row, h⟩ := h
  have HF := hide (find_any Bd nb db sv ids row s S p k w hs h hk)
  have HD := hide h
  obtain ⟨r, hr⟩ : ∃ r, r = s.lenOf k := ⟨_, rfl⟩
  rw [← hr]
  unfold Dk.St.lenOf at hr
  clear h hs
  rcases find_cases s k with ⟨j, hf⟩ | ⟨i, hf, hnm⟩
  · rw [hf] at hr HF ⊢
    simp only at hr HF ⊢
    subst hr
    have hne := fun w' => neq_nilD (p j) w'
    unfold errV at hne
    clear hf
    go_enter Tryz.func158, Tryz.ntmps158
    go_wp2_with (first
      | (go_at_call 147; refine HF.out.mono ?_; rintro e w1 ⟨rfl, q, hq⟩; simp only [errR, errV, fileV])
      | fail)
    go_returns
    exact ⟨rfl, q, rfl⟩
  · rw [hf] at hr HF ⊢
    simp only at hr HF ⊢
    subst hr
    have hi := (HD.out.nref k i hnm).1
    have hfi := HD.out.file i hi
    obtain ⟨A, c, hrv, -⟩ := hfi.row.arg
    have hc1' : w.cell? ⟨i, 1, none⟩ = some (row i) := box_cell hfi.box 1
    rw [hrv] at hc1'
    clear hf hnm hi hfi hrv
    go_enter Tryz.func158, Tryz.ntmps158
    go_wp2_with (first
      | (go_at_call 147; refine HF.out.mono ?_; rintro e w1 ⟨rfl, q, rfl⟩; have hc2 : (w.drewN q).cell? ⟨i, 1, none⟩ = some (.slice A (s.files i).bytes.length c) := hc1'; have HQ : Hid (∃ q', w.drewN q = w.drewN q') := hide ⟨q, rfl⟩; generalize w.drewN q = w1 at *; simp only [errR, fileV])
      | fail)
    go_returns
    exact ⟨rfl, HQ.out⟩

set_option maxRecDepth 100000 in
theorem synced_any (Bd : Nat) (s : Dk.St) (S : Nat → Prop) (p : Nat → Addr) (k : Dk.Nm) (w : World) (hs : SentsD w p) (h : IsDisk w Bd s S) (hk : k.length ≤ 9223372036854775807) :
    Calls Tryz.prog 111 #[.pointer (some ⟨Bd, 0, none⟩), encStr k] w fun e w' => e = .returned (.tuple #[.int .i64 (s.syncedOf k), errR p (s.find k).1]) ∧ ∃ q, w' = w.drewN q := by
  obtain ⟨nb, db, sv, ids, row, h⟩ := h
  have HF := hide (find_any Bd nb db sv ids row s S p k w hs h hk)
  have HD := hide h
  obtain ⟨r, hr⟩ : ∃ r, r = s.syncedOf k := ⟨_, rfl⟩
  rw [← hr]
  unfold Dk.St.syncedOf at hr
  clear h hs
  rcases find_cases s k with ⟨j, hf⟩ | ⟨i, hf, hnm⟩
  · rw [hf] at hr HF ⊢
    simp only at hr HF ⊢
    subst hr
    have hne := fun w' => neq_nilD (p j) w'
    unfold errV at hne
    clear hf
    go_enter Tryz.func111, Tryz.ntmps111
    go_wp2_with (first
      | (go_at_call 147; refine HF.out.mono ?_; rintro e w1 ⟨rfl, q, hq⟩; simp only [errR, errV, fileV])
      | fail)
    go_returns
    exact ⟨rfl, q, rfl⟩
  · rw [hf] at hr HF ⊢
    simp only at hr HF ⊢
    subst hr
    have hi := (HD.out.nref k i hnm).1
    have hfi := HD.out.file i hi
    have hc1' : w.cell? ⟨i, 2, none⟩ = some (.int .i64 ((s.files i).synced : Int)) := box_cell hfi.box 2
    clear hf hnm hi hfi
    go_enter Tryz.func111, Tryz.ntmps111
    go_wp2_with (first
      | (go_at_call 147; refine HF.out.mono ?_; rintro e w1 ⟨rfl, q, rfl⟩; have hc2 : (w.drewN q).cell? ⟨i, 2, none⟩ = some (.int .i64 ((s.files i).synced : Int)) := hc1'; have HQ : Hid (∃ q', w.drewN q = w.drewN q') := hide ⟨q, rfl⟩; generalize w.drewN q = w1 at *; simp only [errR, fileV])
      | fail)
    go_returns
    exact ⟨rfl, HQ.out⟩

set_option maxRecDepth 100000 in
theorem down_any (Bd : Nat) (s : Dk.St) (S : Nat → Prop) (w : World) (h : IsDisk w Bd s S) : Calls Tryz.prog 31 #[.pointer (some ⟨Bd, 0, none⟩)] w fun e w' => e = .returned (.bool s.down) ∧ w' = w := by
  obtain ⟨nb, db, sv, ids, row, h⟩ := h
  have c : w.cell? ⟨Bd, 7, none⟩ = some (.bool s.down) := box_cell h.box 7
  clear h
  go_enter Tryz.func31, Tryz.ntmps31
  go_wp2_with fail
  go_ret
  exact ⟨rfl, rfl⟩
end Go.Proofs.YtcmgppacipdnaaaGreatDoor

namespace Go.Proofs.YtcmgppacipdnaaaGreatDoor
open Go.RowKit Go.Maps

set_option maxRecDepth 100000 in
theorem new_any (room : Int) (w : World) (h1 : 1 ≤ room) (h2 : room ≤ 4194304) :
    Calls Tryz.prog 48 #[.int .i64 room] w fun e w' => ∃ Bd, e = .returned (.tuple #[.pointer (some ⟨Bd, 0, none⟩), .nilIface]) ∧ w.heap.size ≤ Bd ∧ IsDisk w' Bd (Dk.St.new room) (fun k => w.heap.size ≤ k ∧ k < w'.heap.size) ∧ Below w.heap.size w w' := by
  have d1 : decide (room < 1) = false := by simp; omega
  have d2 : decide (4194304 < room) = false := by simp; omega
  have mk : ∀ W, (Instr.makeMap 97 none).run Tryz.prog W = .ok (.map (some W.heap.size)) (W.alloc (.map #[] 0)) := fun W => rfl
  go_enter Tryz.func48, Tryz.ntmps48
  go_wp2_with fail
  go_returns
  have ha := NamesAt.made w
  have hb := NamesAt.made (w.alloc (.map #[] 0))
  have b1 : Below w.heap.size w (w.alloc (.map #[] 0)) := balloc (Below.refl _ _) _
  have z1 : (w.alloc (.map #[] 0)).heap.size = w.heap.size + 1 := by simp
  generalize w.alloc (.map #[] 0) = W1 at *
  have b2 : Below W1.heap.size W1 (W1.alloc (.map #[] 0)) := balloc (Below.refl _ _) _
  have z2 : (W1.alloc (.map #[] 0)).heap.size = W1.heap.size + 1 := by simp
  generalize W1.alloc (.map #[] 0) = W2 at *
  refine ⟨w.heap.size + 1 + 1, rfl, by omega, ⟨w.heap.size, w.heap.size + 1, .slice none 0 0, [], fun _ => .nilIface, ?_⟩, ?_⟩
  · have b3 : Below W2.heap.size W2 (W2.alloc (.cells #[.int .i64 room, .map (some w.heap.size), .map (some (w.heap.size + 1)), .slice none 0 0, .int .i64 0, .int .i64 0, .int .i64 0, .bool false] 100)) := balloc (Below.refl _ _) _
    have hn := heap_alloc_new W2 (.cells #[.int .i64 room, .map (some w.heap.size), .map (some (w.heap.size + 1)), .slice none 0 0, .int .i64 0, .int .i64 0, .int .i64 0, .bool false] 100)
    have z3 : (W2.alloc (.cells #[.int .i64 room, .map (some w.heap.size), .map (some (w.heap.size + 1)), .slice none 0 0, .int .i64 0, .int .i64 0, .int .i64 0, .bool false] 100)).heap.size = W2.heap.size + 1 := by simp
    generalize W2.alloc (.cells #[.int .i64 room, .map (some w.heap.size), .map (some (w.heap.size + 1)), .slice none 0 0, .int .i64 0, .int .i64 0, .int .i64 0, .bool false] 100) = W3 at *
    rw [z2, z1] at hn
    rw [z1] at hb
    exact { box := hn, names := ha.same ((b3.block _ (by omega)).trans (b2.block _ (by omega))), dur := ⟨0, hb.same (b3.block _ (by omega)), Nat.le_refl _⟩, ne := by omega, since := World.ownsRow_nil _ _ _ _, nodup := List.nodup_nil, file := fun i hi => absurd hi List.not_mem_nil, apart := fun i hi => absurd hi List.not_mem_nil, nref := fun k i hk => (by cases hk), dref := fun k i hk => (by cases hk), sref := fun m hm => absurd hm List.not_mem_nil, calls := Int.le_refl _, mBd := (by show _ ∧ _; omega), mnb := (by show _ ∧ _; omega), mdb := (by show _ ∧ _; omega), msv := fun g hg => (by cases hg), mid := fun i hi => absurd hi List.not_mem_nil, mrow := fun i hi => absurd hi List.not_mem_nil }
  · exact (b1.trans (b2.mono (by omega))).trans ((balloc (Below.refl _ _) _ : Below W2.heap.size W2 _).mono (by omega))
end Go.Proofs.YtcmgppacipdnaaaGreatDoor

namespace Go.Proofs.YtcmgppacipdnaaaGreatDoor
open Go.RowKit Go.Maps

end Go.Proofs.YtcmgppacipdnaaaGreatDoor

namespace Go.Proofs.YtcmgppacipdnaaaGreatDoor
open Go.RowKit Go.Maps

end Go.Proofs.YtcmgppacipdnaaaGreatDoor

namespace Go.Proofs.YtcmgppacipdnaaaGreatDoor
open Go.RowKit

theorem run_eql_bytes_nil (A : Option Addr) (n c : Nat) (w : World) : (binOp .eql 67 (.slice A n c) (.slice none 0 0)).run Tryz.prog w = .ok (.bool A.isNone) w := by
  have ht : Tryz.prog.underlying 67 = some (.slice 5) := by kernel_rfl
  have h : ∀ d : Nat, (Op.equalIn (d + 1) 67 (.slice A n c) (.slice none 0 0)).run Tryz.prog w = .ok A.isNone w := fun d => by cases A <;> simp [Op.equalIn, run_underlying ht]
  simp only [binOp]
  simp [Op.equal, Op.maxDepth, h 9999]
theorem Own.none_yet (w : World) (base : Nat) (hb : base ≤ w.heap.size) : Own (w.alloc (.cells #[] 5)) base (.slice (some ⟨w.heap.size, 0, none⟩) 0 0) [] :=
  World.ownsRow_made w #[] 0 hb (Nat.zero_le _) rfl

/-- A copy in a row of its own. -/
theorem bclone_any (A : Option Addr) (cap n : Nat) (l : List UInt8) (w : World) (hn : l.length = n) (hl : n ≤ 1000000000) (ha : Arg w A cap l) :
    Calls Tryz.prog 187 #[.slice A n cap] w fun e w' => ∃ v, e = .returned v ∧ Own w' w.heap.size v l ∧ Below w.heap.size w w' := by
  have ks := fun W => run_eql_bytes_nil A n cap W
  cases A with
  | none =>
    have h0 : l = [] := by
      have := ha.nil rfl
      have := ha.le
      exact List.eq_nil_of_length_eq_zero (by omega)
    subst h0
    obtain rfl : n = 0 := hn.symm
    have hc := ha.nil rfl
    subst hc
    clear ha hn
    go_enter Tryz.func187, Tryz.ntmps187
    go_wp2_with fail
    go_ret
    exact ⟨_, rfl, Own.nil _ _, Below.refl _ _⟩
  | some a =>
    have HA := hide ha
    have HN := hide hn
    have HO := hide (Own.none_yet w w.heap.size (Nat.le_refl _))
    clear ha hn
    go_enter Tryz.func187, Tryz.ntmps187
    go_wp2_with (at_builtin; refine wpList_app (w := w.alloc _) rfl (.tmp 5) (.tmp 6) rfl w.heap.size _ [] l rfl HO.out (some a) n cap rfl HN.out (HA.out.reads.alloc _) (by simp; omega) (by simp) ?_; intro v w3 hown3 hg3 hv3)
    have hb : Below w.heap.size w w3 := (balloc (Below.refl _ _) _).grown hg3 (by simp) (fun g hg => (HO.out.lt g hg).1)
    rw [List.nil_append] at hown3
    go_ret
    exact ⟨v, rfl, hown3, hb⟩

end Go.Proofs.YtcmgppacipdnaaaGreatDoor

namespace Go.Proofs.YtcmgppacipdnaaaGreatDoor
open Go.RowKit Go.Maps

/-- What a file holds from a place on. -/
def Dk.St.readOf (s : Dk.St) (k : Dk.Nm) (a n : Int) : Option Nat × Dk.Nm :=
  match s.find k with
  | (some j, _) => (some j, [])
  | (none, none) => (none, [])
  | (none, some i) => if a < 0 ∨ n < 0 ∨ ((s.files i).bytes.length : Int) < a ∨ ((s.files i).bytes.length : Int) - a < n then (some 4, []) else (none, ((s.files i).bytes.drop a.toNat).take n.toNat)
theorem SentsOn.drewN {w : World} {p : Nat → Addr} (h : SentsD w p) (q : Nat) : SentsD (w.drewN q) p := ⟨fun j hj => h.cell j hj, fun j hj => h.blk j hj, h.ne⟩

set_option maxRecDepth 100000 in
set_option maxHeartbeats 1000000 in
theorem dRead_any (Bd : Nat) (s : Dk.St) (S : Nat → Prop) (p : Nat → Addr) (k : Dk.Nm) (a n : Int) (w : World) (hs : SentsD w p) (h : IsDisk w Bd s S) (hk : k.length ≤ 9223372036854775807) (hft : Dk.Fit s) (ha : -9223372036854775808 ≤ a ∧ a ≤ 9223372036854775807) :
    Calls Tryz.prog 159 #[.pointer (some ⟨Bd, 0, none⟩), encStr k, .int .i64 a, .int .i64 n] w fun e w' => ∃ v, e = .returned (.tuple #[v, errR p (s.readOf k a n).1]) ∧ Own w' w.heap.size v (s.readOf k a n).2 ∧ Below w.heap.size w w' := by
  obtain ⟨nb, db, sv, ids, row, h⟩ := h
  have HF := hide (find_any Bd nb db sv ids row s S p k w hs h hk)
  have HD := hide h
  have HSE := hide hs
  obtain ⟨r, hr⟩ : ∃ r, r = s.readOf k a n := ⟨_, rfl⟩
  rw [← hr]
  unfold Dk.St.readOf at hr
  clear h hs
  rcases find_cases s k with ⟨j, hf⟩ | ⟨i, hf, hnm⟩
  · rw [hf] at hr HF
    simp only at hr HF
    subst hr
    have hne := fun w' => neq_nilD (p j) w'
    unfold errV at hne
    clear hf
    go_enter Tryz.func159, Tryz.ntmps159
    go_wp2_with (first
      | (go_at_call 147; refine HF.out.mono ?_; rintro e w1 ⟨rfl, q, hq⟩; simp only [errR, errV, fileV])
      | fail)
    go_returns
    exact ⟨_, rfl, Own.nil _ _, (below_drewN (Below.refl w.heap.size w) q)⟩
  · rw [hf] at hr HF
    simp only at hr HF
    have hi := (HD.out.nref k i hnm).1
    have hfi := HD.out.file i hi
    obtain ⟨A, c, hrv, harg⟩ := hfi.row.arg
    have HA := hide harg
    have hc1 : w.cell? ⟨i, 1, none⟩ = some (row i) := box_cell hfi.box 1
    rw [hrv] at hc1
    have hlen := hft.file i
    clear hf hnm hi hfi hrv harg hft
    generalize (s.files i).bytes = B at *
    by_cases hbad : a < 0 ∨ n < 0 ∨ (B.length : Int) < a ∨ (B.length : Int) - a < n
    · rw [if_pos hbad] at hr
      subst hr
      by_cases h0 : a < 0
      · have d0 : decide (a < 0) = true := by simp [h0]
        go_enter Tryz.func159, Tryz.ntmps159
        go_wp2_with (first
          | (go_at_call 147; refine HF.out.mono ?_; rintro e w1 ⟨rfl, q, rfl⟩; have g4 := (HSE.out.drewN q).c4; have hc2 : (w.drewN q).cell? ⟨i, 1, none⟩ = some (.slice A B.length c) := hc1; have HB : Hid (Below w.heap.size w (w.drewN q)) := hide ((below_drewN (Below.refl w.heap.size w) q)); generalize w.drewN q = w1 at *; simp only [errR, fileV])
          | fail)
        go_quiet (fail)
        go_wp2_with fail
        go_returns
        exact ⟨_, rfl, Own.nil _ _, below_drewN HB.out nq⟩
      · have d0 : decide (a < 0) = false := by simp; omega
        obtain ⟨x, rfl⟩ : ∃ x : Nat, a = (x : Int) := ⟨a.toNat, by omega⟩
        by_cases h1 : n < 0
        · have d1 : decide (n < 0) = true := by simp [h1]
          go_enter Tryz.func159, Tryz.ntmps159
          go_wp2_with (first
            | (go_at_call 147; refine HF.out.mono ?_; rintro e w1 ⟨rfl, q, rfl⟩; have g4 := (HSE.out.drewN q).c4; have hc2 : (w.drewN q).cell? ⟨i, 1, none⟩ = some (.slice A B.length c) := hc1; have HB : Hid (Below w.heap.size w (w.drewN q)) := hide (below_drewN (Below.refl w.heap.size w) q); generalize w.drewN q = w1 at *; simp only [errR, fileV])
            | fail)
          go_quiet (fail)
          go_wp2_with fail
          go_returns
          exact ⟨_, rfl, Own.nil _ _, below_drewN HB.out nq⟩
        · have d1 : decide (n < 0) = false := by simp; omega
          by_cases h2 : B.length < x
          · have d2 : decide (B.length < x) = true := by simp [h2]
            go_enter Tryz.func159, Tryz.ntmps159
            go_wp2_with (first
              | (go_at_call 147; refine HF.out.mono ?_; rintro e w1 ⟨rfl, q, rfl⟩; have g4 := (HSE.out.drewN q).c4; have hc2 : (w.drewN q).cell? ⟨i, 1, none⟩ = some (.slice A B.length c) := hc1; have HB : Hid (Below w.heap.size w (w.drewN q)) := hide (below_drewN (Below.refl w.heap.size w) q); generalize w.drewN q = w1 at *; simp only [errR, fileV])
              | fail)
            go_quiet (fail)
            go_wp2_with fail
            go_returns
            exact ⟨_, rfl, Own.nil _ _, below_drewN HB.out nq⟩
          · have d2 : decide (B.length < x) = false := by simp; omega
            have hw1 : IntKind.i64.wrap ((B.length : Int) - (x : Int)) = (B.length : Int) - (x : Int) := IntWalk.i64_in _ (by omega)
            have h3 : (B.length : Int) - (x : Int) < n := by omega
            have d3 : decide ((B.length : Int) - (x : Int) < n) = true := by simp [h3]
            go_enter Tryz.func159, Tryz.ntmps159
            go_wp2_with (first
              | (go_at_call 147; refine HF.out.mono ?_; rintro e w1 ⟨rfl, q, rfl⟩; have g4 := (HSE.out.drewN q).c4; have hc2 : (w.drewN q).cell? ⟨i, 1, none⟩ = some (.slice A B.length c) := hc1; have HB : Hid (Below w.heap.size w (w.drewN q)) := hide (below_drewN (Below.refl w.heap.size w) q); generalize w.drewN q = w1 at *; simp only [errR, fileV])
              | fail)
            go_quiet (fail)
            go_wp2_with fail
            go_returns
            exact ⟨_, rfl, Own.nil _ _, below_drewN HB.out nq⟩
    · rw [if_neg hbad] at hr
      subst hr
      obtain ⟨x, rfl⟩ : ∃ x : Nat, a = (x : Int) := ⟨a.toNat, by omega⟩
      obtain ⟨m, rfl⟩ : ∃ m : Nat, n = (m : Int) := ⟨n.toNat, by omega⟩
      have hx : x + m ≤ B.length := by omega
      have d0 : decide ((x : Int) < 0) = false := by simp
      have d1 : decide ((m : Int) < 0) = false := by simp
      have d2 : decide (B.length < x) = false := by simp; omega
      have hw1 : IntKind.i64.wrap ((B.length : Int) - (x : Int)) = (B.length : Int) - (x : Int) := IntWalk.i64_in _ (by omega)
      have d3 : decide ((B.length : Int) - (x : Int) < (m : Int)) = false := by simp; omega
      have hw2 : IntKind.i64.wrap ((x : Int) + (m : Int)) = ((x + m : Nat) : Int) := by rw [IntWalk.i64_in _ (by omega)]; omega
      have hle := HA.out.le
      have hct := fun W => run_cut_lh W A B.length c x (x + m) (by omega) (by omega)
      rw [show x + m - x = m by omega] at hct
      have HCA : Hid (∀ W, Below w.heap.size w W → Calls Tryz.prog 187 #[.slice (cutA A c x) m (c - x)] W fun e w' => ∃ v, e = .returned v ∧ Own w' W.heap.size v ((B.drop x).take m) ∧ Below W.heap.size W w') := hide (fun W hW =>
        bclone_any _ _ _ _ W (by rw [List.length_take, List.length_drop]; omega) (by omega) (((HA.out.below hW (Nat.le_refl _)).cut x (by omega)).first m))
      clear hbad
      go_enter Tryz.func159, Tryz.ntmps159
      go_wp2_with (first
        | (go_at_call 147; refine HF.out.mono ?_; rintro e w1 ⟨rfl, q, rfl⟩; have hc2 : (w.drewN q).cell? ⟨i, 1, none⟩ = some (.slice A B.length c) := hc1; have HB : Hid (Below w.heap.size w (w.drewN q)) := hide (below_drewN (Below.refl w.heap.size w) q); have HCW := hide (HCA.out _ HB.out); have HZ : Hid ((w.drewN q).heap.size = w.heap.size) := hide rfl; generalize w.drewN q = w1 at *; simp only [errR, fileV])
        | (go_at_call 187; refine HCW.out.mono ?_; rintro e w2 ⟨v, rfl, hown, hb2⟩)
        | fail)
      all_goals
        go_returns
        exact ⟨_, rfl, by have h9 := hown; rw [HZ.out] at h9; exact h9, HB.out.trans (hb2.mono HB.out.size)⟩
end Go.Proofs.YtcmgppacipdnaaaGreatDoor

namespace Go.Proofs.YtcmgppacipdnaaaGreatDoor
open Go.RowKit

/-- The two blocks that such a loop lays, and what they hold. -/
structure Laid2 (W : World) (D : Nat) (r : Loop) : Prop where
  lp : W.heap[D + 1]? = some (.loop r)
  dd : W.heap[D]? = some (.deferred (some []))
theorem Laid2.step {W W' : World} {D : Nat} {r : Loop} {row : Option Nat} (h : Laid2 W D r) (hg : W.grownBy W' row) (hr : ∀ k, row = some k → ∃ o : Obj, W.heap[k]? = some o ∧ o.isWalk = true) : Laid2 W' D r :=
  ⟨(grownBy_keeps hg hr h.lp rfl).trans h.lp, (grownBy_keeps hg hr h.dd rfl).trans h.dd⟩
theorem Laid2.turn {W : World} {D : Nat} {r : Loop} (h : Laid2 W D r) (r' : Loop) : Laid2 (W.putObj (D + 1) (.loop r')) D r' :=
  ⟨World.putObj_heap_same (Array.getElem?_eq_some_iff.1 h.lp).1, (World.putObj_heap_other (by omega)).trans h.dd⟩
theorem Laid2.others {W W' : World} {D : Nat} {r : Loop} (h : Laid2 W D r) (hk : KeepsOthers W W') : Laid2 W' D r := ⟨hk.same _ _ h.lp rfl, hk.same _ _ h.dd rfl⟩

end Go.Proofs.YtcmgppacipdnaaaGreatDoor

namespace Go.Proofs.YtcmgppacipdnaaaGreatDoor
open Go.RowKit Go.Maps Go.Sort

theorem has_iff {f : Dk.Dir} {D0 : DataW Unit} (hat0 : ∀ k zd, D0.atKey (.string k) zd = fileD (f k) zd) (x : Dk.Nm) : Maps.has D0 (.string x) = true ↔ f x ≠ none := by
  cases hf : f x with
  | none =>
    have := has_false_of_atKey (D := D0) (k := .string x) fun z => by rw [hat0, hf]; rfl
    simp [this]
  | some i =>
    have := has_true_of_atKey (D := D0) (k := .string x) (y := .lit (.int .i64 (i : Int))) fun z => by rw [hat0, hf]; rfl
    simp [this]

end Go.Proofs.YtcmgppacipdnaaaGreatDoor

namespace Go.Proofs.YtcmgppacipdnaaaGreatDoor
open Go.RowKit

end Go.Proofs.YtcmgppacipdnaaaGreatDoor

namespace Go.Proofs.YtcmgppacipdnaaaGreatDoor
open Go.RowKit Go.Maps Go.Sort

abbrev fileE (i : Nat) : Value := .pointer (some ⟨i, 0, none⟩)
/-- Between two rounds: what has come lies in a row that the box leads to. -/
structure Gath (w0 : World) (Bs : Nat) (pre : List Nat) (W : World) : Prop where
  box : ∃ v, W.heap[Bs]? = some (.cells #[v] 107 (0, 0)) ∧ W.ownsRow w0.heap.size 106 1 v pre.length (pre.map fileE)
  below : Below w0.heap.size w0 W
theorem Gath.step {w0 W W' : World} {Bs : Nat} {pre : List Nat} {row : Option Nat} (h : Gath w0 Bs pre W) (hg : W.grownBy W' row) (hr : ∀ r, row = some r → w0.heap.size ≤ r ∧ ∃ o : Obj, W.heap[r]? = some o ∧ o.isCells = false) : Gath w0 Bs pre W' := by
  obtain ⟨v, h1, h2⟩ := h.box
  have nb : ∀ k (c : Array Value) (t : TypeId) (z : Nat × Nat), W.heap[k]? = some (.cells c t z) → some k ≠ row := fun k c t z hk e => by
    obtain ⟨_, o, ho, hc⟩ := hr k e.symm
    rw [hk] at ho
    injection ho with ho
    subst ho
    cases hc
  refine ⟨⟨v, (hg.block Bs (Array.getElem?_eq_some_iff.1 h1).1 (nb _ _ _ _ h1)).trans h1, h2.kept hg ?_⟩, h.below.grown hg h.below.size fun k e => (hr k e).1⟩
  rcases h2.2 with ⟨rfl, _⟩ | ⟨g, cap, cur, rfl, _, hgb, _⟩
  · exact .inl rfl
  · exact .inr fun e => nb g _ _ _ hgb e

end Go.Proofs.YtcmgppacipdnaaaGreatDoor

namespace Go.Proofs.YtcmgppacipdnaaaGreatDoor
open Go.RowKit Go.Maps Go.Sort

end Go.Proofs.YtcmgppacipdnaaaGreatDoor

namespace Go.Proofs.YtcmgppacipdnaaaGreatDoor
open Go.Shelf
end Go.Proofs.YtcmgppacipdnaaaGreatDoor

namespace Go.Proofs.YtcmgppacipdnaaaGreatDoor
open Go.RowKit Go.Maps Go.Sort Go.Shelf

section
variable {α : Type} [Inhabited α] (enc : α → Value)
end

end Go.Proofs.YtcmgppacipdnaaaGreatDoor

namespace Go.Proofs.YtcmgppacipdnaaaGreatDoor
open Go.RowKit Go.Maps Go.Sort Go.Shelf

end Go.Proofs.YtcmgppacipdnaaaGreatDoor

namespace Go.Proofs.YtcmgppacipdnaaaGreatDoor
open Go.RowKit Go.Maps Go.Sort Go.Shelf

end Go.Proofs.YtcmgppacipdnaaaGreatDoor

namespace Go.Proofs.YtcmgppacipdnaaaGreatDoor
open Go.RowKit Go.Maps Go.Sort Go.Shelf

end Go.Proofs.YtcmgppacipdnaaaGreatDoor

namespace Go.Proofs.YtcmgppacipdnaaaGreatDoor

end Go.Proofs.YtcmgppacipdnaaaGreatDoor

namespace Go.Proofs.YtcmgppacipdnaaaGreatDoor
open Go.RowKit Go.Maps Go.Sort Go.Shelf

end Go.Proofs.YtcmgppacipdnaaaGreatDoor
