/-
  A store's Head.
  A client's Head.
  A store's Delete.
  A client's calls that tell an error alone: Part, Delete, Abort, and Complete as far as it asks the store for it.
  A client's Complete.
  A slice of numbers of 64 bits in memory.
  What a row's reading says of an argument of numbers of 64 bits, and of texts.
  What StoreParts asks beside the store: its bounds, its rows of numbers, and the parts that it laid, plainly.
-/
import Derived.Test.YtegaahcelogmlaaGreatDoorR2
import Derived.Test.YtegaahcelogmlaaGreatDoorR1
import Derived.Test.YtegaahcelogmlaaGreatDoorU1
import Derived.Test.YtegaahcelogmlaaGreatDoorT1
import Derived.Deep.Matrix
import Derived.Test.YtegaahcelogmlaaGreatDoorT4
import Derived.LoopTactic
import Derived.Deep.LoopGhost
namespace Go.Proofs.YtegaahcelogmlaaGreatDoor
open Go.RowKit Go.Maps Crc

set_option maxRecDepth 100000 in
set_option maxHeartbeats 1000000 in
/-- The closure of Head. -/
theorem stHead1_any {w : World} {sb ob ub : Nat} {sv : Value} {ov : St.Nm → Option Value} {pb : Int → Nat} {pv : Int → Int → Option Value} {s : St.S} {m : Nat} {S D : Nat → Prop} (h : StoreL w sb ob ub sv ov pb pv s m S D) (p : Nat → Addr)
    (hs6 : w.cell? ⟨2, 0, none⟩ = some (errV (p 6))) (xb nb : Nat) (k : List UInt8) (hk : k.length ≤ 1000000000)
    (c1 : w.cell? ⟨xb, 0, none⟩ = some (.pointer (some ⟨sb, 0, none⟩))) (c2 : w.cell? ⟨nb, 0, none⟩ = some (encStr k)) :
    Calls Tryz.prog 85 #[.pointer (some ⟨xb, 0, none⟩), .pointer (some ⟨nb, 0, none⟩)] w fun e w' => ∃ A c, e = .returned (.tuple #[.slice A (s.headF k).1.1.length c, errR p (s.headF k).1.2]) ∧ Arg w' A c (s.headF k).1.1 ∧ (s.headF k).1.1.length ≤ 1000000000 ∧ (s.headF k).2 = s ∧ Below w.heap.size w w' := by
  obtain ⟨A, c, hl, hle, ha⟩ := h.lookObj k (by omega)
  have b0 : w.cell? ⟨sb, 0, none⟩ = some (.map (some ob)) := box_cell h.box 0
  unfold errV at hs6
  obtain ⟨r, hr⟩ : ∃ r, s.headF k = r := ⟨_, rfl⟩
  rw [hr]
  unfold St.S.headF at hr
  clear h
  cases ho : s.objs k with
  | none =>
    rw [ho] at hl hr
    subst hr
    simp only [Option.getD_none, Option.isSome_none] at hl
    clear hle ha
    go_enter Tryz.func85, Tryz.ntmps85
    go_wp2_with fail
    go_quiet (fail)
    go_wp2_with fail
    go_quiet (fail)
    go_wp2_with fail
    go_returns
    exact ⟨none, 0, by first | rfl | trivial, ⟨by simp, by omega, fun _ => rfl, .inl rfl⟩, by simp, by trivial, below_drewN (below_drewN (Below.refl _ _) _) _⟩
  | some b =>
    rw [ho] at hl hle ha hr
    simp only at hr
    subst hr
    simp only [Option.getD_some, Option.isSome_some] at hl hle ha
    clear ho
    have HA := hide ha
    simp only
    generalize hbl : b.length = L at *
    have HLE := hide hle
    clear ha hbl hle
    go_enter Tryz.func85, Tryz.ntmps85
    go_wp2_with fail
    go_quiet (fail)
    go_wp2_with fail
    go_returns
    exact ⟨A, c, by first | rfl | trivial, HA.out.drewN _, HLE.out, by trivial, below_drewN (Below.refl _ _) _⟩

theorem readsAll_one (w : World) (A : Option Addr) (c : Nat) (a : List UInt8) (n : Nat) (hn : a.length = n) (ha : Arg w A c a) (hl : n ≤ 1000000000) : ReadsAll (w.alloc (.cells #[.slice A n c] 22)) (some ⟨w.heap.size, 0, none⟩) [⟨A, c, a⟩] := by
  subst hn
  refine .inr ⟨_, _, rfl, by simp, fun k hk => ?_⟩
  obtain rfl : k = 0 := by simpa using hk
  refine ⟨?_, by simp; omega, ha.reads.alloc _⟩
  rw [World.cell?_alloc_mark]
  rfl
theorem flat_one (A : Option Addr) (c : Nat) (a : List UInt8) : flat [⟨A, c, a⟩] = a := by simp [flat]
theorem StGo.grow {S D S' D' : Nat → Prop} {w w1 w2 : World} (h : StGo S D S' D' w w1) (hb : Below w1.heap.size w1 w2) : StGo S D S' D' w w2 := by
  have hz := hb.size
  exact ⟨h.chg.then (Chg.of_below hb), fun k hk => by rcases h.s k hk with h | h; exact .inl h; exact .inr (by omega), fun k hk => by rcases h.d k hk with h | h; exact .inl h; exact .inr (by omega)⟩
def St.S.head (s : St.S) (k : St.Nm) : (List UInt8 × Option Nat) × St.S := s.ask [] (St.S.headF k)
theorem St.head_quiet (k : St.Nm) : St.Quiet (St.S.headF k) := fun t => by unfold St.S.headF; split <;> exact ⟨rfl, rfl⟩
set_option maxRecDepth 100000 in
set_option maxHeartbeats 1000000 in
theorem StS.head {w0 w : World} {S D : Nat → Prop} {sb n : Nat} {s : St.S} (h : StS w0 S D sb s n w) (p : Nat → Addr) {E : Nat → Prop} [hE : Told E] (hs : SentsOn E w0 p) (hn : n ≤ 1000000) (ht : Tabs w0) (k : List UInt8) (hk : k.length ≤ 100000) :
    Calls Tryz.prog 64 #[.pointer (some ⟨sb, 0, none⟩), encStr k] w fun e w' => e = .returned (.tuple #[.int .i64 ((s.head k).1.1.length : Int), .int .u32 (U (Crc.sum (s.head k).1.1)), errR p (s.head k).1.2]) ∧ StS w0 S D sb (s.head k).2 (n + 1) w' ∧ Chg S w w' := by
  obtain ⟨W, hW⟩ : ∃ W, W = ((w.alloc (.cells #[.pointer (some ⟨sb, 0, none⟩)] 26)).alloc (.cells #[encStr k] 9)) := ⟨_, rfl⟩
  have hb : Below w.heap.size w W := hW ▸ balloc (balloc (Below.refl _ _) _) _
  have q0 : W.cell? ⟨w.heap.size, 0, none⟩ = some (.pointer (some ⟨sb, 0, none⟩)) := by
    rw [hW, World.cell?_alloc_lt _ _ _ (by simp <;> omega), World.cell?_alloc_mark]; rfl
  have q1 : W.cell? ⟨w.heap.size + 1, 0, none⟩ = some (encStr k) := by
    have e : (w.alloc (.cells #[.pointer (some ⟨sb, 0, none⟩)] 26)).heap.size = w.heap.size + 1 := by simp
    rw [hW, ← e, World.cell?_alloc_mark]; rfl
  have hbW := h.below.trans (hb.mono h.below.size)
  have hsb : sb < w.heap.size := by obtain ⟨_, _, _, _, _, _, hl⟩ := h.st; exact hl.lt _ (.inl hl.msb)
  have hSg : ∀ j, E j → ¬ S (gs.getD j 0) := fun j hj hS => by have := h.lo _ (.inl hS); have := hs.size j hj; omega
  have hsbg : ∀ j, E j → gs.getD j 0 ≠ sb := fun j hj e => by obtain ⟨_, _, _, _, _, _, hl⟩ := h.st; exact hSg j hj (e ▸ hl.msb)
  have hmsb : S sb := by obtain ⟨_, _, _, _, _, _, hl⟩ := h.st; exact hl.msb
  have HB := hide (ansCallB (h.st.below hb) ⟨h.calls.1, by have := h.calls.2; omega⟩ ⟨h.failed.1, by have := h.failed.2; omega⟩ p (errCellE hs hbW 10 hE.e10) (hSg 10 hE.e10) 85 #[.pointer (some ⟨w.heap.size, 0, none⟩), .pointer (some ⟨w.heap.size + 1, 0, none⟩)] (enters_of Tryz.func85 (by kernel_rfl) rfl) ([] : List UInt8) (St.S.headF k) (fun a v W => ∃ A c, v = .slice A a.length c ∧ Arg W A c a ∧ a.length ≤ 1000000000) (fun a v W W' ⟨A, c, h1, h2, h3⟩ hb => ⟨A, c, h1, h2.below hb (Nat.le_refl _), h3⟩) (fun W => ⟨none, 0, rfl, ⟨by simp, by omega, fun _ => rfl, .inl rfl⟩, by simp⟩) (fun t W' => IsStore W' sb t n S D ∧ Chg S W W') (fun w1 hc hi => ⟨hi, hc.mono fun k e => e ▸ hmsb⟩) (fun t W W' hh hb => ⟨hh.1.below hb, hh.2.then (Chg.of_below hb)⟩) (fun t W hh => hh.2)
    fun w1 hc1 h1 => by
      obtain ⟨ob, ub, sv, ov, pb, pv, h1⟩ := h1
      refine (stHead1_any h1 p (hc1.cell (errCellE hs hbW 6 hE.e6) (hsbg 6 hE.e6)) _ _ k (by omega) (hc1.cell q0 (by show ¬ (w.heap.size = sb); omega)) (hc1.cell q1 (by show ¬ (w.heap.size + 1 = sb); omega))).mono ?_
      rintro e w2 ⟨A, c, he, ha, hl, hst, hb2⟩
      refine ⟨A, _, c, he, ⟨A, c, rfl, ha, hl⟩, ?_⟩
      rw [hst]
      exact ⟨IsStore.below ⟨_, _, _, _, _, _, h1⟩ hb2, (hc1.mono fun k e => e ▸ hmsb).then (Chg.of_below hb2)⟩)
  have HP : Hid (∀ w', IsStore w' sb (s.ask ([] : List UInt8) (St.S.headF k)).2 n S D ∧ Chg S W w' → StS w0 S D sb (s.ask ([] : List UInt8) (St.S.headF k)).2 (n + 1) w' ∧ Chg S w w') := hide (fun w' hp => by
    have hq := St.ask_num (St.head_quiet k) s ([] : List UInt8)
    have := h.calls; have := h.failed
    have hch := (Chg.of_below hb).then hp.2
    exact ⟨h.read hp.1 hch ⟨by omega, by omega⟩ ⟨by omega, by omega⟩, hch⟩)
  have HW := hide hW
  have HT := hide (fun W (hW : Below w0.heap.size w0 W) => ht.below hW (Nat.le_refl _))
  clear h hs hW hb q0 q1 hbW hSg hsbg hsb ht hmsb
  go_enter Tryz.func64, Tryz.ntmps64
  go_wp2_with (first
    | (go_at_call 84; rw [← HW.out]; refine HB.out.mono ?_; rintro e w1 ⟨A', x, c', rfl, ⟨A, c, hv, ha, hlen⟩, hp⟩; injection hv with hv1 hv2 hv3; subst hv1 hv2 hv3; have H := hide (HP.out _ hp); have HA := hide ha; have HLEN := hide hlen; clear hp ha hlen; generalize hx : (s.ask [] (St.S.headF k)).1.1 = a at *; generalize hal : a.length = al at *; have HAL := hide hal; have HX := hide hx; clear hal hx)
    | (go_at_call 18; refine (of_at _ 1 1 [⟨A', c', a⟩] _ rfl (by omega) (readsAll_one w1 A' c' a al HAL.out HA.out (by have := HLEN.out; omega)) (HT.out _ (H.out.1.below.trans ((balloc (Below.refl _ _) _).mono H.out.1.below.size)))).mono ?_; rintro e w2 ⟨rfl, q, hq⟩; have HQ := hide hq; clear hq; rw [flat_one])
    | fail)
  go_returns
  refine ⟨by rw [show s.head k = s.ask [] (St.S.headF k) from rfl, HX.out, HAL.out]; rfl, ?_⟩
  have hb2 : Below w1.heap.size w1 w2 := by rw [HQ.out]; exact below_drewN (balloc (Below.refl _ _) _) _
  exact ⟨H.out.1.grow hb2, H.out.2.then (Chg.of_below hb2)⟩
end Go.Proofs.YtegaahcelogmlaaGreatDoor

namespace Go.Proofs.YtegaahcelogmlaaGreatDoor
open Go.RowKit Go.Maps

/-- Two boxes of the call's own, written beside a store. -/
structure Two (w0 w : World) (S D : Nat → Prop) (sb n vb vc : Nat) (s : St.S) (x y : Value) (w' : World) : Prop where
  box1 : w'.heap[vb]? = some (.cells #[x] 3 (0, 0))
  box2 : w'.heap[vc]? = some (.cells #[y] 33 (0, 0))
  st : StS w0 S D sb s n w'
  go : CaGo S D (fun k => k = vb ∨ k = vc) S D w w'
theorem two_of {w0 w w2 : World} {S D : Nat → Prop} {sb n vb vc : Nat} {s : St.S} {x0 y0 : Value} (h : StS w0 S D sb s n w2) (hg : Chg S w w2) (hv : w2.heap[vb]? = some (.cells #[x0] 3 (0, 0))) (hv2 : w2.heap[vc]? = some (.cells #[y0] 33 (0, 0))) (hS : ¬ S vb ∧ ¬ D vb ∧ w0.heap.size ≤ vb) (hS2 : ¬ S vc ∧ ¬ D vc ∧ w0.heap.size ≤ vc) (hne : vb ≠ vc) (x y : Value) :
    Two w0 w S D sb n vb vc s x y ((w2.setCell ⟨vb, 0, none⟩ x).setCell ⟨vc, 0, none⟩ y) ∧ Two w0 w S D sb n vb vc s x y ((w2.setCell ⟨vc, 0, none⟩ y).setCell ⟨vb, 0, none⟩ x) := by
  have g0 : CaGo S D (fun k => k = vb ∨ k = vc) S D w w2 := ⟨hg.mono fun _ h => .inl h, fun _ h => .inl h, fun _ h => .inl h⟩
  have gb : ∀ W v, CaGo S D (fun k => k = vb ∨ k = vc) S D W (W.setCell ⟨vb, 0, none⟩ v) := fun W v => ⟨Chg.setCell (S := fun k => S k ∨ (k = vb ∨ k = vc)) W vb 0 v (.inr (.inl rfl)), fun _ h => .inl h, fun _ h => .inl h⟩
  have gc : ∀ W v, CaGo S D (fun k => k = vb ∨ k = vc) S D W (W.setCell ⟨vc, 0, none⟩ v) := fun W v => ⟨Chg.setCell (S := fun k => S k ∨ (k = vb ∨ k = vc)) W vc 0 v (.inr (.inr rfl)), fun _ h => .inl h, fun _ h => .inl h⟩
  refine ⟨⟨?_, ?_, (h.setC vb 0 x hS.1 hS.2.1 hS.2.2).setC vc 0 y hS2.1 hS2.2.1 hS2.2.2, (g0.trans (gb _ _)).trans (gc _ _)⟩, ⟨?_, ?_, (h.setC vc 0 y hS2.1 hS2.2.1 hS2.2.2).setC vb 0 x hS.1 hS.2.1 hS.2.2, (g0.trans (gc _ _)).trans (gb _ _)⟩⟩
  · rw [Below.heap_setCell _ _ _ _ (fun e => hne (by first | exact e | exact e.symm)), heap_set hv 0 x]; rfl
  · rw [heap_set ((Below.heap_setCell _ _ _ _ (fun e => hne (by first | exact e | exact e.symm))).trans hv2) 0 y]; rfl
  · rw [heap_set ((Below.heap_setCell _ _ _ _ (fun e => hne (by first | exact e | exact e.symm))).trans hv) 0 x]; rfl
  · rw [Below.heap_setCell _ _ _ _ (fun e => hne (by first | exact e | exact e.symm)), heap_set hv2 0 y]; rfl

set_option maxRecDepth 100000 in
set_option maxHeartbeats 4000000 in
/-- The closure of Head. -/
theorem caHead1_any {w0 w : World} {S D : Nat → Prop} {sb cb n : Nat} {s : St.S} (h : StS w0 S D sb s n w) (c0 : w.cell? ⟨cb, 0, none⟩ = some (.pointer (some ⟨sb, 0, none⟩))) (p : Nat → Addr) {E : Nat → Prop} [hE : Told E] (hs : SentsOn E w0 p) (hn : n ≤ 1000000) (htb : Tabs w0) (xc xn vb vc : Nat) (k : List UInt8) (hk : k.length ≤ 100000)
    (c1 : w.cell? ⟨xc, 0, none⟩ = some (.pointer (some ⟨cb, 0, none⟩))) (c2 : w.cell? ⟨xn, 0, none⟩ = some (encStr k)) (z z2 : Int) (hv : w.heap[vb]? = some (.cells #[.int .i64 z] 3 (0, 0))) (hv2 : w.heap[vc]? = some (.cells #[.int .u32 z2] 33 (0, 0))) (hS : ¬ S vb ∧ ¬ D vb ∧ w0.heap.size ≤ vb) (hS2 : ¬ S vc ∧ ¬ D vc ∧ w0.heap.size ≤ vc) (hne : vb ≠ vc) :
    Calls Tryz.prog 63 #[.pointer (some ⟨xc, 0, none⟩), .pointer (some ⟨xn, 0, none⟩), .pointer (some ⟨vb, 0, none⟩), .pointer (some ⟨vc, 0, none⟩)] w fun e w' => e = .returned (errR p (s.head k).1.2) ∧ Two w0 w S D sb (n + 1) vb vc (s.head k).2 (.int .i64 ((s.head k).1.1.length : Int)) (.int .u32 (U (Crc.sum (s.head k).1.1))) w' := by
  have HP := hide (fun (W : World) (hW : Below w.heap.size w W) => StS.head (h.grow hW) p hs hn htb k hk)
  have HC := hide (fun (W : World) (hW : Below w.heap.size w W) (w2 : World) (hg : Chg S W w2) => (And.intro ((hg.block vb (Nat.lt_of_lt_of_le (Array.getElem?_eq_some_iff.1 hv).1 hW.size) hS.1).trans ((hW.block vb (Array.getElem?_eq_some_iff.1 hv).1).trans hv)) ((hg.block vc (Nat.lt_of_lt_of_le (Array.getElem?_eq_some_iff.1 hv2).1 hW.size) hS2.1).trans ((hW.block vc (Array.getElem?_eq_some_iff.1 hv2).1).trans hv2)) : w2.heap[vb]? = some (.cells #[.int .i64 z] 3 (0, 0)) ∧ w2.heap[vc]? = some (.cells #[.int .u32 z2] 33 (0, 0))))
  have HV := hide (fun (W : World) (hW : Below w.heap.size w W) (w2 : World) (h2 : StS w0 S D sb (s.head k).2 (n + 1) w2) (hg : Chg S W w2) => two_of (w := w) h2 ((Chg.of_below hW).then hg) (HC.out W hW w2 hg).1 (HC.out W hW w2 hg).2 hS hS2 hne (.int .i64 ((s.head k).1.1.length : Int)) (.int .u32 (U (Crc.sum (s.head k).1.1))))
  clear h hs hn hk hv hv2 hS hS2 htb
  go_enter Tryz.func63, Tryz.ntmps63
  go_wp2_with fail
  go_region_with (go_at_call 64; refine (HP.out _ (below_drewN (Below.refl _ _) _)).mono ?_; rintro e w2 ⟨rfl, h2, hg⟩; have H2 := hide h2; have HG := hide hg; have hx := HC.out _ (below_drewN (Below.refl _ _) _) w2 hg; have cv := box_cell hx.1 0; have fv := box_free hx.1 0; have cv2 := box_cell hx.2 0; have fv2 := box_free hx.2 0; have cv3 : ∀ v, (w2.setCell ⟨vb, 0, none⟩ v).cell? ⟨vc, 0, none⟩ = some (.int .u32 z2) := fun v => (World.cell?_setCell_other _ _ _ _ (by intro e; injection e with e _ _; first | exact hne e | exact hne e.symm)).trans cv2; have cv4 : ∀ v, (w2.setCell ⟨vc, 0, none⟩ v).cell? ⟨vb, 0, none⟩ = some (.int .i64 z) := fun v => (World.cell?_setCell_other _ _ _ _ (by intro e; injection e with e _ _; first | exact hne e | exact hne e.symm)).trans cv; clear h2 hg hx)
  all_goals
    go_wp2_with fail
    refine bodyPost_ret (by simp [results, Tryz.results63, go_sem]; try rfl) rfl ?_
    have hq := HV.out _ (below_drewN (Below.refl _ _) _) w2 H2.out HG.out
    first | exact ⟨rfl, hq.1⟩ | exact ⟨rfl, hq.2⟩

/-- What a client's Head makes of a store. -/
abbrev St.chead (t : Nat) (k : St.Nm) (s : St.S) : St.Ag (St.S × List UInt8) := St.again (St.askOf fun s => s.ask [] (St.S.headF k)) t (s, [])
theorem St.head_in {E : Nat → Prop} (h6 : E 6) (k : St.Nm) (t : St.S) (j : Nat) (h : (St.S.headF k t).1.2 = some j) : E j := by
  unfold St.S.headF at h; split at h <;> simp at h; exact h ▸ h6
theorem sum_nil : U (Crc.sum []) = 0 := by decide
set_option maxRecDepth 100000 in
set_option maxHeartbeats 1000000 in
theorem CaS.head {w0 w : World} {S D : Nat → Prop} {sb cb t n : Nat} {a : Int} {s : St.S} (h : CaS w0 S D sb cb t a s n w) (p : Nat → Addr) {E : Nat → Prop} [hE : Told E] (hs : SentsOn E w0 p) (htb : Tabs w0) (ht : 1 ≤ t ∧ t ≤ 8) (hn : n ≤ 900000) (k : List UInt8) (hk : k.length ≤ 100000) :
    Calls Tryz.prog 45 #[.pointer (some ⟨cb, 0, none⟩), encStr k] w fun e w' => e = .returned (.tuple #[.int .i64 ((St.chead t k s).st.2.length : Int), .int .u32 (U (Crc.sum (St.chead t k s).st.2)), errR p (St.chead t k s).r]) ∧ ∃ S' D', CaS w0 S' D' sb cb t (a + (St.chead t k s).k) (St.chead t k s).st.1 (n + t) w' ∧ CaGo S D (fun k => k = cb) S' D' w w' := by
  obtain ⟨W, hW⟩ : ∃ W, W = (((w.alloc (.cells #[.pointer (some ⟨cb, 0, none⟩)] 28)).alloc (.cells #[encStr k] 9)).alloc (.cells #[.int .i64 0] 3)).alloc (.cells #[.int .u32 0] 33) := ⟨_, rfl⟩
  have hb : Below w.heap.size w W := hW ▸ balloc (balloc (balloc (balloc (Below.refl _ _) _) _) _) _
  have q0 : W.cell? ⟨w.heap.size, 0, none⟩ = some (.pointer (some ⟨cb, 0, none⟩)) := by
    rw [hW, World.cell?_alloc_lt _ _ _ (by simp <;> omega), World.cell?_alloc_lt _ _ _ (by simp <;> omega), World.cell?_alloc_lt _ _ _ (by simp <;> omega), World.cell?_alloc_mark]; rfl
  have q1 : W.cell? ⟨w.heap.size + 1, 0, none⟩ = some (encStr k) := by
    have e : (w.alloc (.cells #[.pointer (some ⟨cb, 0, none⟩)] 28)).heap.size = w.heap.size + 1 := by simp
    rw [hW, ← e, World.cell?_alloc_lt _ _ _ (by simp <;> omega), World.cell?_alloc_lt _ _ _ (by simp <;> omega), World.cell?_alloc_mark]; rfl
  have q2 : W.heap[w.heap.size + 2]? = some (.cells #[.int .i64 0] 3 (0, 0)) := by
    have e : ((w.alloc (.cells #[.pointer (some ⟨cb, 0, none⟩)] 28)).alloc (.cells #[encStr k] 9)).heap.size = w.heap.size + 2 := by simp
    rw [hW, ← e, Below.heap_alloc _ _ _ (by simp), heap_alloc_new]
  have q3 : W.heap[w.heap.size + 3]? = some (.cells #[.int .u32 0] 33 (0, 0)) := by
    have e : (((w.alloc (.cells #[.pointer (some ⟨cb, 0, none⟩)] 28)).alloc (.cells #[encStr k] 9)).alloc (.cells #[.int .i64 0] 3)).heap.size = w.heap.size + 3 := by simp
    rw [hW, ← e, heap_alloc_new]
  have hcl : cb < w.heap.size := (Array.getElem?_eq_some_iff.1 h.box).1
  have hvl : w.heap.size + 3 < W.heap.size := (Array.getElem?_eq_some_iff.1 q3).1
  have hnS : ∀ x, w.heap.size ≤ x → ¬ S x := fun x hx hS => by have := h.st.lt _ (.inl hS); omega
  have hnD : ∀ x, w.heap.size ≤ x → ¬ D x := fun x hx hS => by have := h.st.lt _ (.inr hS); omega
  have hw0 : w0.heap.size ≤ w.heap.size := h.st.below.size
  have HA := hide (caAgain (E := E) hE.e10 (h.grow hb) hs ht (by omega) 63 #[.pointer (some ⟨w.heap.size, 0, none⟩), .pointer (some ⟨w.heap.size + 1, 0, none⟩), .pointer (some ⟨w.heap.size + 2, 0, none⟩), .pointer (some ⟨w.heap.size + 3, 0, none⟩)] (enters_of Tryz.func63 (by kernel_rfl) rfl)
    (fun s => s.ask [] (St.S.headF k)) (St.err_in (E := E) hE.e10 [] _ (St.head_in (E := E) hE.e6 k)) (fun x => x = w.heap.size + 2 ∨ x = w.heap.size + 3) (fun b W => W.heap[w.heap.size + 2]? = some (.cells #[.int .i64 (b.length : Int)] 3 (0, 0)) ∧ W.heap[w.heap.size + 3]? = some (.cells #[.int .u32 (U (Crc.sum b))] 33 (0, 0))) (fun _ => True) (fun _ _ => trivial)
    (fun x W1 v hx => ⟨(Below.heap_setCell _ _ _ _ (fun e => by have e2 : w.heap.size + 2 = cb := e; omega)).trans hx.1, (Below.heap_setCell _ _ _ _ (fun e => by have e2 : w.heap.size + 3 = cb := e; omega)).trans hx.2⟩)
    (fun S1 D1 s1 a1 n1 x W1 h1 _ h3 h4 hgo hx => by
      have hS1 : ∀ y, w.heap.size ≤ y → y < W.heap.size → ¬ S1 y := fun y hy1 hy2 hy => by
        rcases hgo.s _ hy with hy | hy
        · exact hnS _ (by omega) hy
        · omega
      have hD1 : ∀ y, w.heap.size ≤ y → y < W.heap.size → ¬ D1 y := fun y hy1 hy2 hy => by
        rcases hgo.d _ hy with hy | hy
        · exact hnD _ (by omega) hy
        · omega
      exact (caHead1_any h3 (box_cell h4 0) p hs (by omega) htb _ _ _ _ k hk (hgo.cell q0 (hnS _ (Nat.le_refl _)) (by omega)) (hgo.cell q1 (hnS _ (by omega)) (by omega)) _ _ hx.1 hx.2 ⟨hS1 _ (by omega) (by omega), hD1 _ (by omega) (by omega), by omega⟩ ⟨hS1 _ (by omega) (by omega), hD1 _ (by omega) (by omega), by omega⟩ (by omega)).mono fun e w' ⟨he, htw⟩ => ⟨he, ⟨htw.box1, htw.box2⟩, S1, D1, htw.st, htw.go⟩) (by omega) [] ⟨q2, by rw [sum_nil]; exact q3⟩ trivial)
  have HW := hide hW
  have HB := hide hb
  clear h hs ht hn hk hW hb q0 q1 q2 q3 hcl hvl hnS hnD hw0 htb
  go_enter Tryz.func45, Tryz.ntmps45
  go_wp2_with (first
    | (go_at_call 38; rw [← HW.out]; refine HA.out.mono ?_; rintro e w2 ⟨rfl, hbx, -, S', D', h1, h2⟩; have H1 := hide h1; have H2 := hide h2; have cv := box_cell hbx.1 0; simp only [List.getElem?_toArray, List.getElem?_cons_zero] at cv; have cv2 := box_cell hbx.2 0; simp only [List.getElem?_toArray, List.getElem?_cons_zero] at cv2; clear h1 h2 hbx)
    | fail)
  go_quiet (fail)
  go_wp2_with fail
  go_returns
  exact ⟨by first | rfl | trivial, S', D', H1.out.grow (below_drewN (Below.refl _ _) _), (H2.out.ahead HB.out fun k hk => hk.elim .inl fun e => .inr (by omega)).trans ⟨Chg.of_below (below_drewN (Below.refl _ _) _), fun _ h => .inl h, fun _ h => .inl h⟩⟩
end Go.Proofs.YtegaahcelogmlaaGreatDoor

namespace Go.Proofs.YtegaahcelogmlaaGreatDoor
open Go.RowKit Go.Maps

section
variable {w : World} {sb ob ub : Nat} {sv : Value} {ov : St.Nm → Option Value} {pb : Int → Nat} {pv : Int → Int → Option Value} {s : St.S} {m : Nat} {S D : Nat → Prop}
/-- An object goes. -/
theorem StoreL.dropObj {w2 : World} (h : StoreL w sb ob ub sv ov pb pv s m S D) {k : List UInt8} (hm : MapS w2 ob m (updV ov k none)) (hg : w.grownBy w2 (some ob)) (hz : w2.heap.size = w.heap.size) :
    StoreL w2 sb ob ub sv (updV ov k none) pb pv { s with objs := St.upd s.objs k none } m S D := by
  have hoth : ∀ g, g ≠ ob → g < w.heap.size → w2.heap[g]? = w.heap[g]? := fun g hne hl => hg.block g hl (by intro e; injection e with e; exact hne e)
  have hD := fun (v : Value) (l : List UInt8) (hd : DataAt w D v l) => hd.kept (w' := w2) (by omega) fun g hx hl => hoth g (fun e => h.sd _ h.mob (e ▸ hx)) hl
  have hmp : ∀ {κ : Type} {kt : TypeId} {mk : κ → Lit} {x : Nat} {f : κ → Option Value}, MapV kt mk w x m f → x ≠ ob → MapV kt mk w2 x m f := fun hmap hne => hmap.same (hoth _ hne hmap.lt)
  have hsb : sb ≠ ob := fun e => by
    obtain ⟨es, clock, he⟩ := h.objs.isMap
    rw [← e, h.box] at he; cases he
  refine { box := (hoth _ hsb (h.lt _ (.inl h.msb))).trans h.box, objs := hm, oat := fun x => ?_, ups := hmp h.ups h.ne.symm, parts := fun i u hu => ?_, inj := h.inj, ne := h.ne, scr := h.scr.kept fun g hS hl ⟨cs, hcs⟩ => hoth g (fun e => ?_) hl, msb := h.msb, mob := h.mob, mub := h.mub, sd := h.sd, lt := fun g hx => by rw [hz]; exact h.lt g hx, keys := fun x hx => h.keys x (fun e => hx (by show St.upd s.objs k none x = none; unfold St.upd; split; rfl; exact e)), last := h.last }
  · by_cases e : x = k
    · subst e; simp only [updV, St.upd, if_true]; trivial
    · simp only [updV, St.upd, if_neg e]; exact (h.oat x).imp hD
  · obtain ⟨p1, p2, p3, p4, p5, p6, p7, p8⟩ := h.parts i u hu
    exact ⟨hmp p1 p4, fun n => (p2 n).imp hD, p3, p4, p5, p6, p7, p8⟩
  · subst e
    obtain ⟨es, clock, he⟩ := h.objs.isMap
    rw [hcs] at he; cases he
end

def St.S.del (s : St.S) (k : St.Nm) : (Unit × Option Nat) × St.S := s.ask () (St.S.delF k)
theorem St.del_quiet (k : St.Nm) : St.Quiet (St.S.delF k) := fun t => by unfold St.S.delF; split <;> exact ⟨rfl, rfl⟩
end Go.Proofs.YtegaahcelogmlaaGreatDoor

namespace Go.Proofs.YtegaahcelogmlaaGreatDoor
open Go.RowKit Go.Maps

theorem St.part_in {E : Nat → Prop} (h4 : E 4) (h6 : E 6) (id l : Int) (b : List UInt8) (t : St.S) (j : Nat) (h : (St.S.partF id l b t).1.2 = some j) : E j := by
  unfold St.S.partF at h
  split at h
  · simp at h; exact h ▸ h6
  · split at h <;> simp at h; exact h ▸ h4
theorem St.del_in {E : Nat → Prop} (h6 : E 6) (k : St.Nm) (t : St.S) (j : Nat) (h : (St.S.delF k t).1.2 = some j) : E j := by
  unfold St.S.delF at h; split at h <;> simp at h; exact h ▸ h6
theorem St.abort_in {E : Nat → Prop} (h6 : E 6) (id : Int) (t : St.S) (j : Nat) (h : (St.S.abortF id t).1.2 = some j) : E j := by
  unfold St.S.abortF at h; split at h <;> simp at h; exact h ▸ h6
theorem St.comp_in {E : Nat → Prop} (h4 : E 4) (h6 : E 6) (id l : Int) (t : St.S) (j : Nat) (h : (St.S.compF id l t).1.2 = some j) : E j := by
  unfold St.S.compF at h
  split at h
  · simp at h; exact h ▸ h6
  · split at h
    · simp at h; exact h ▸ h4
    · split at h <;> simp at h; exact h ▸ h4

set_option maxRecDepth 100000 in
set_option maxHeartbeats 1000000 in
/-- The closure of Part. -/
theorem caPart1_any {w0 w : World} {S D : Nat → Prop} {sb cb n : Nat} {s : St.S} (h : StS w0 S D sb s n w) (c0 : w.cell? ⟨cb, 0, none⟩ = some (.pointer (some ⟨sb, 0, none⟩))) (p : Nat → Addr) {E : Nat → Prop} [hE : Told E] (hs : SentsOn E w0 p) (hn : n ≤ 1000000) (xc x0 x1 x2 : Nat) (id : Int) (hid : -9223372036854775808 ≤ id ∧ id ≤ 9223372036854775807) (l : Int) (hl : -9223372036854775808 ≤ l ∧ l ≤ 9223372036854775807) (A : Option Addr) (L c : Nat) (b : List UInt8) (ha : Arg w A c b) (hL : b.length = L) (hL2 : L ≤ 1000000000) (hA : ∀ x o, A = some ⟨x, o, none⟩ → b ≠ [] → ¬ S x)
    (c1 : w.cell? ⟨xc, 0, none⟩ = some (.pointer (some ⟨cb, 0, none⟩))) (c2 : w.cell? ⟨x0, 0, none⟩ = some (.int .i64 id)) (c3 : w.cell? ⟨x1, 0, none⟩ = some (.int .i64 l)) (c4 : w.cell? ⟨x2, 0, none⟩ = some (.slice A L c)) :
    Calls Tryz.prog 41 #[.pointer (some ⟨xc, 0, none⟩), .pointer (some ⟨x0, 0, none⟩), .pointer (some ⟨x1, 0, none⟩), .pointer (some ⟨x2, 0, none⟩)] w fun e w' => e = .returned (errR p (s.part id l b).1.2) ∧ ∃ S' D', StS w0 S' D' sb (s.part id l b).2 (n + 1) w' ∧ StGo S D S' D' w w' := by
  have hd : Below w.heap.size w w.drew := (Below.refl w.heap.size w).drew
  have HP := hide (StS.part (h.grow hd) p hs hn id hid l hl A L c b (ha.below hd (Nat.le_refl _)) hL hL2 hA)
  clear h hs hn hd hid hl ha hL hL2 hA
  go_enter Tryz.func41, Tryz.ntmps41
  go_wp2_with fail
  go_still_tail 7, (by kernel_rfl)
  change wpList _ _ _ _ _ w.drew
  go_wp2_with (first
    | (go_at_call 42; refine HP.out.mono ?_; rintro e w2 ⟨rfl, S', D', h1, h2⟩; have H1 := hide h1; have H2 := hide h2; clear h1 h2)
    | fail)
  go_ret
  exact ⟨rfl, S', D', H1.out, H2.out.drew⟩

/-- Part asked again, in the boxes of the call. -/
theorem caPart_again {w0 w : World} {S D : Nat → Prop} {sb cb t n : Nat} {a : Int} {s : St.S} (h : CaS w0 S D sb cb t a s n w) (p : Nat → Addr) {E : Nat → Prop} [hE : Told E] (hs : SentsOn E w0 p) (ht : 1 ≤ t ∧ t ≤ 8) (hn : n ≤ 900000) (id : Int) (hid : -9223372036854775808 ≤ id ∧ id ≤ 9223372036854775807) (l : Int) (hl : -9223372036854775808 ≤ l ∧ l ≤ 9223372036854775807) (A : Option Addr) (L c : Nat) (b : List UInt8) (ha : Arg w A c b) (hL : b.length = L) (hL2 : L ≤ 1000000000) (hA : ∀ x o, A = some ⟨x, o, none⟩ → b ≠ [] → ¬ S x ∧ ¬ x = cb) (W : World) (hW : W = (((w.alloc (.cells #[.pointer (some ⟨cb, 0, none⟩)] 28)).alloc (.cells #[.int .i64 id] 3)).alloc (.cells #[.int .i64 l] 3)).alloc (.cells #[.slice A L c] 22)) :
    Below w.heap.size w W ∧ Calls Tryz.prog 38 #[.pointer (some ⟨cb, 0, none⟩), .func (.func 41) #[] #[.pointer (some ⟨w.heap.size, 0, none⟩), .pointer (some ⟨w.heap.size + 1, 0, none⟩), .pointer (some ⟨w.heap.size + 2, 0, none⟩), .pointer (some ⟨w.heap.size + 3, 0, none⟩)]] W fun e w' => e = .returned (.tuple #[.bool (St.again (St.bareOf fun s => s.ask () (St.S.partF id l b)) t s).doubt, errR p (St.again (St.bareOf fun s => s.ask () (St.S.partF id l b)) t s).r]) ∧ 
      ∃ S' D', CaS w0 S' D' sb cb t (a + (St.again (St.bareOf fun s => s.ask () (St.S.partF id l b)) t s).k) (St.again (St.bareOf fun s => s.ask () (St.S.partF id l b)) t s).st (n + t) w' ∧ CaGo S D (fun k => k = cb) S' D' W w' := by
  have hb : Below w.heap.size w W := hW ▸ balloc (balloc (balloc (balloc (Below.refl _ _) _) _) _) _
  have q0 : W.cell? ⟨w.heap.size, 0, none⟩ = some (.pointer (some ⟨cb, 0, none⟩)) := by
    have e : w.heap.size = w.heap.size := by simp
    rw [hW, World.cell?_alloc_lt _ _ _ (by simp <;> omega), World.cell?_alloc_lt _ _ _ (by simp <;> omega), World.cell?_alloc_lt _ _ _ (by simp <;> omega), ← e, World.cell?_alloc_mark]; rfl
  have q1 : W.cell? ⟨w.heap.size + 1, 0, none⟩ = some (.int .i64 id) := by
    have e : (w.alloc (.cells #[.pointer (some ⟨cb, 0, none⟩)] 28)).heap.size = w.heap.size + 1 := by simp
    rw [hW, World.cell?_alloc_lt _ _ _ (by simp <;> omega), World.cell?_alloc_lt _ _ _ (by simp <;> omega), ← e, World.cell?_alloc_mark]; rfl
  have q2 : W.cell? ⟨w.heap.size + 2, 0, none⟩ = some (.int .i64 l) := by
    have e : ((w.alloc (.cells #[.pointer (some ⟨cb, 0, none⟩)] 28)).alloc (.cells #[.int .i64 id] 3)).heap.size = w.heap.size + 2 := by simp
    rw [hW, World.cell?_alloc_lt _ _ _ (by simp <;> omega), ← e, World.cell?_alloc_mark]; rfl
  have q3 : W.cell? ⟨w.heap.size + 3, 0, none⟩ = some (.slice A L c) := by
    have e : (((w.alloc (.cells #[.pointer (some ⟨cb, 0, none⟩)] 28)).alloc (.cells #[.int .i64 id] 3)).alloc (.cells #[.int .i64 l] 3)).heap.size = w.heap.size + 3 := by simp
    rw [hW, ← e, World.cell?_alloc_mark]; rfl
  have hcl : cb < w.heap.size := (Array.getElem?_eq_some_iff.1 h.box).1
  have hnS : ∀ x, w.heap.size ≤ x → ¬ S x := fun x hx hS => by have := h.st.lt _ (.inl hS); omega
  have haW := ha.below hb (Nat.le_refl _)
  refine ⟨hb, (caBare (E := E) hE.e10 (h.grow hb) hs ht (by omega) 41 #[.pointer (some ⟨w.heap.size, 0, none⟩), .pointer (some ⟨w.heap.size + 1, 0, none⟩), .pointer (some ⟨w.heap.size + 2, 0, none⟩), .pointer (some ⟨w.heap.size + 3, 0, none⟩)] (enters_of Tryz.func41 (by kernel_rfl) rfl)
    (fun s => s.ask () (St.S.partF id l b)) (St.err_in (E := E) hE.e10 () _ (St.part_in (E := E) hE.e4 hE.e6 id l b)) (fun _ => True) (fun _ _ => trivial) (fun S1 D1 s1 a1 n1 W1 h1 hok h3 h4 hgo => ?_) trivial).mono fun e w' ⟨he, ho, S', D', h1, h2⟩ => ⟨he, S', D', h1, h2⟩⟩
  have hA1 := haW.stays hgo hA
  exact caPart1_any h3 (box_cell h4 0) p hs (by omega) _ _ _ _ id hid l hl A L c b hA1.1 hL hL2 hA1.2 (hgo.cell q0 (hnS _ (by omega)) (by omega)) (hgo.cell q1 (hnS _ (by omega)) (by omega)) (hgo.cell q2 (hnS _ (by omega)) (by omega)) (hgo.cell q3 (hnS _ (by omega)) (by omega))

set_option maxRecDepth 100000 in
set_option maxHeartbeats 1000000 in
/-- The closure of Complete. -/
theorem caComplete1_any {w0 w : World} {S D : Nat → Prop} {sb cb n : Nat} {s : St.S} (h : StS w0 S D sb s n w) (c0 : w.cell? ⟨cb, 0, none⟩ = some (.pointer (some ⟨sb, 0, none⟩))) (p : Nat → Addr) {E : Nat → Prop} [hE : Told E] (hs : SentsOn E w0 p) (hn : n ≤ 1000000) (xc x0 x1 : Nat) (id : Int) (hid : -9223372036854775808 ≤ id ∧ id ≤ 9223372036854775807) (l : Int) (_hl : -9223372036854775808 ≤ l ∧ l ≤ 9223372036854775807) (hsum : ∀ u, s.ups id = some u → ∀ k b, k ≤ 256 → St.joinN u.parts k = some b → b.length ≤ 1000000000)
    (c1 : w.cell? ⟨xc, 0, none⟩ = some (.pointer (some ⟨cb, 0, none⟩))) (c2 : w.cell? ⟨x0, 0, none⟩ = some (.int .i64 id)) (c3 : w.cell? ⟨x1, 0, none⟩ = some (.int .i64 l)) :
    Calls Tryz.prog 43 #[.pointer (some ⟨xc, 0, none⟩), .pointer (some ⟨x0, 0, none⟩), .pointer (some ⟨x1, 0, none⟩)] w fun e w' => e = .returned (errR p (s.comp id l).1.2) ∧ ∃ S' D', StS w0 S' D' sb (s.comp id l).2 (n + 1) w' ∧ StGo S D S' D' w w' := by
  have hd : Below w.heap.size w w.drew := (Below.refl w.heap.size w).drew
  have HP := hide (StS.comp (h.grow hd) p hs hn id hid l hsum)
  clear h hs hn hd hid _hl hsum
  go_enter Tryz.func43, Tryz.ntmps43
  go_wp2_with fail
  go_still_tail 6, (by kernel_rfl)
  change wpList _ _ _ _ _ w.drew
  go_wp2_with (first
    | (go_at_call 44; refine HP.out.mono ?_; rintro e w2 ⟨rfl, S', D', h1, h2⟩; have H1 := hide h1; have H2 := hide h2; clear h1 h2)
    | fail)
  go_ret
  exact ⟨rfl, S', D', H1.out, H2.out.drew⟩

/-- Complete asked again, in the boxes of the call. -/
theorem caComplete_again {w0 w : World} {S D : Nat → Prop} {sb cb t n : Nat} {a : Int} {s : St.S} (h : CaS w0 S D sb cb t a s n w) (p : Nat → Addr) {E : Nat → Prop} [hE : Told E] (hs : SentsOn E w0 p) (ht : 1 ≤ t ∧ t ≤ 8) (hn : n ≤ 900000) (id : Int) (hid : -9223372036854775808 ≤ id ∧ id ≤ 9223372036854775807) (l : Int) (hl : -9223372036854775808 ≤ l ∧ l ≤ 9223372036854775807) (Ok : St.S → Prop) (hOk : ∀ s, Ok s → Ok (s.ask () (St.S.compF id l)).2) (hOs : ∀ s, Ok s → ∀ u, s.ups id = some u → ∀ k b, k ≤ 256 → St.joinN u.parts k = some b → b.length ≤ 1000000000) (h0 : Ok s) (W : World) (hW : W = ((w.alloc (.cells #[.pointer (some ⟨cb, 0, none⟩)] 28)).alloc (.cells #[.int .i64 id] 3)).alloc (.cells #[.int .i64 l] 3)) :
    Below w.heap.size w W ∧ Calls Tryz.prog 38 #[.pointer (some ⟨cb, 0, none⟩), .func (.func 43) #[] #[.pointer (some ⟨w.heap.size, 0, none⟩), .pointer (some ⟨w.heap.size + 1, 0, none⟩), .pointer (some ⟨w.heap.size + 2, 0, none⟩)]] W fun e w' => e = .returned (.tuple #[.bool (St.again (St.bareOf fun s => s.ask () (St.S.compF id l)) t s).doubt, errR p (St.again (St.bareOf fun s => s.ask () (St.S.compF id l)) t s).r]) ∧ Ok (St.again (St.bareOf fun s => s.ask () (St.S.compF id l)) t s).st ∧
      ∃ S' D', CaS w0 S' D' sb cb t (a + (St.again (St.bareOf fun s => s.ask () (St.S.compF id l)) t s).k) (St.again (St.bareOf fun s => s.ask () (St.S.compF id l)) t s).st (n + t) w' ∧ CaGo S D (fun k => k = cb) S' D' W w' := by
  have hb : Below w.heap.size w W := hW ▸ balloc (balloc (balloc (Below.refl _ _) _) _) _
  have q0 : W.cell? ⟨w.heap.size, 0, none⟩ = some (.pointer (some ⟨cb, 0, none⟩)) := by
    have e : w.heap.size = w.heap.size := by simp
    rw [hW, World.cell?_alloc_lt _ _ _ (by simp <;> omega), World.cell?_alloc_lt _ _ _ (by simp <;> omega), ← e, World.cell?_alloc_mark]; rfl
  have q1 : W.cell? ⟨w.heap.size + 1, 0, none⟩ = some (.int .i64 id) := by
    have e : (w.alloc (.cells #[.pointer (some ⟨cb, 0, none⟩)] 28)).heap.size = w.heap.size + 1 := by simp
    rw [hW, World.cell?_alloc_lt _ _ _ (by simp <;> omega), ← e, World.cell?_alloc_mark]; rfl
  have q2 : W.cell? ⟨w.heap.size + 2, 0, none⟩ = some (.int .i64 l) := by
    have e : ((w.alloc (.cells #[.pointer (some ⟨cb, 0, none⟩)] 28)).alloc (.cells #[.int .i64 id] 3)).heap.size = w.heap.size + 2 := by simp
    rw [hW, ← e, World.cell?_alloc_mark]; rfl
  have hcl : cb < w.heap.size := (Array.getElem?_eq_some_iff.1 h.box).1
  have hnS : ∀ x, w.heap.size ≤ x → ¬ S x := fun x hx hS => by have := h.st.lt _ (.inl hS); omega
  refine ⟨hb, (caBare (E := E) hE.e10 (h.grow hb) hs ht (by omega) 43 #[.pointer (some ⟨w.heap.size, 0, none⟩), .pointer (some ⟨w.heap.size + 1, 0, none⟩), .pointer (some ⟨w.heap.size + 2, 0, none⟩)] (enters_of Tryz.func43 (by kernel_rfl) rfl)
    (fun s => s.ask () (St.S.compF id l)) (St.err_in (E := E) hE.e10 () _ (St.comp_in (E := E) hE.e4 hE.e6 id l)) (Ok) hOk (fun S1 D1 s1 a1 n1 W1 h1 hok h3 h4 hgo => ?_) h0).mono fun e w' ⟨he, ho, S', D', h1, h2⟩ => ⟨he, ho, S', D', h1, h2⟩⟩
  exact caComplete1_any h3 (box_cell h4 0) p hs (by omega) _ _ _ id hid l hl (hOs s1 hok) (hgo.cell q0 (hnS _ (by omega)) (by omega)) (hgo.cell q1 (hnS _ (by omega)) (by omega)) (hgo.cell q2 (hnS _ (by omega)) (by omega))

/-- What is told where nothing is there any more, though it may be the call's own doing. -/
def St.Ag.taken {σ : Type} (a : St.Ag σ) : Option Nat := if a.doubt = true ∧ a.r = some 6 then none else a.r
theorem St.agn_in {σ : Type} {E : Nat → Prop} {f : σ → Option Nat × σ} (hf : ∀ s j, (f s).1 = some j → E j) : ∀ (n : Nat) (last : Option Nat) (s : σ), (∀ j, last = some j → E j) → ∀ j, (St.agn f n last s).r = some j → E j
  | 0, _, _, hl, j, h => hl j h
  | n + 1, last, s, hl, j, h => by
    by_cases he : (f s).1 = some 10
    · rw [St.agn_more he] at h
      exact St.agn_in hf n (some 10) _ (fun j hj => by cases hj; exact hf _ _ he) j h
    · rw [St.agn_stop he] at h
      exact hf _ _ h

set_option maxRecDepth 100000 in
set_option maxHeartbeats 1000000 in
theorem CaS.part {w0 w : World} {S D : Nat → Prop} {sb cb t n : Nat} {a : Int} {s : St.S} (h : CaS w0 S D sb cb t a s n w) (p : Nat → Addr) {E : Nat → Prop} [hE : Told E] (hs : SentsOn E w0 p) (ht : 1 ≤ t ∧ t ≤ 8) (hn : n ≤ 900000) (id : Int) (hid : -9223372036854775808 ≤ id ∧ id ≤ 9223372036854775807) (l : Int) (hl : -9223372036854775808 ≤ l ∧ l ≤ 9223372036854775807) (A : Option Addr) (L c : Nat) (b : List UInt8) (ha : Arg w A c b) (hL : b.length = L) (hL2 : L ≤ 1000000000) (hA : ∀ x o, A = some ⟨x, o, none⟩ → b ≠ [] → ¬ S x ∧ ¬ x = cb) :
    Calls Tryz.prog 30 #[.pointer (some ⟨cb, 0, none⟩), .int .i64 id, .int .i64 l, .slice A L c] w fun e w' => e = .returned (errR p (St.again (St.bareOf fun s => s.ask () (St.S.partF id l b)) t s).r) ∧ ∃ S' D', CaS w0 S' D' sb cb t (a + (St.again (St.bareOf fun s => s.ask () (St.S.partF id l b)) t s).k) (St.again (St.bareOf fun s => s.ask () (St.S.partF id l b)) t s).st (n + t) w' ∧ CaGo S D (fun k => k = cb) S' D' w w' := by
  obtain ⟨W, hW⟩ : ∃ W, W = (((w.alloc (.cells #[.pointer (some ⟨cb, 0, none⟩)] 28)).alloc (.cells #[.int .i64 id] 3)).alloc (.cells #[.int .i64 l] 3)).alloc (.cells #[.slice A L c] 22) := ⟨_, rfl⟩
  obtain ⟨hb, hAg⟩ := caPart_again h p hs ht hn id hid l hl A L c b ha hL hL2 hA W hW
  have HT := hide hAg
  have HW := hide hW
  have HB := hide hb
  clear h hs ht hn hid hl ha hL hL2 hA hW hb hAg
  go_enter Tryz.func30, Tryz.ntmps30
  go_wp2_with (first
    | (go_at_call 38; rw [← HW.out]; refine HT.out.mono ?_; rintro e w2 ⟨rfl, S', D', h1, h2⟩; have H1 := hide h1; have H2 := hide h2; clear h1 h2)
    | fail)
  go_ret
  exact ⟨rfl, S', D', H1.out, H2.out.ahead HB.out fun k hk => .inl hk⟩

end Go.Proofs.YtegaahcelogmlaaGreatDoor

namespace Go.Proofs.YtegaahcelogmlaaGreatDoor
open Go.RowKit Go.Maps

theorem neq_of1 {P : Program} {t T U : TypeId} {x y : Value} {c : Bool} {w : World} (h : (binOp .eql t (.iface T x) (.iface U y)).run P w = .ok (.bool c) w) : (binOp .neq t (.iface T x) (.iface U y)).run P w = .ok (.bool (!c)) w := by
  simp only [binOp] at h ⊢
  rw [Sem.run_bind] at h ⊢
  cases hr : (Op.equal t (.iface T x) (.iface U y)).run P w <;> rw [hr] at h <;> simp [Result.andThen, Sem.run_pure] at h ⊢
  obtain ⟨rfl, rfl⟩ := h
  simp
theorem neq_of2 {P : Program} {t U : TypeId} {y : Value} {c : Bool} {w : World} (h : (binOp .eql t .nilIface (.iface U y)).run P w = .ok (.bool c) w) : (binOp .neq t .nilIface (.iface U y)).run P w = .ok (.bool (!c)) w := by
  simp only [binOp] at h ⊢
  rw [Sem.run_bind] at h ⊢
  cases hr : (Op.equal t .nilIface (.iface U y)).run P w <;> rw [hr] at h <;> simp [Result.andThen, Sem.run_pure] at h ⊢
  obtain ⟨rfl, rfl⟩ := h
  simp
/-- What a client's Complete makes of a store. -/
def St.ccomp (t : Nat) (id l : Int) (k : St.Nm) (size sum : Int) (s : St.S) : St.Ag St.S :=
  if (St.again (St.bareOf fun s => s.ask () (St.S.compF id l)) t s).doubt = true ∧ (St.again (St.bareOf fun s => s.ask () (St.S.compF id l)) t s).r = some 6 then
    ⟨if (St.chead t k (St.again (St.bareOf fun s => s.ask () (St.S.compF id l)) t s).st).r = none ∧ (((St.chead t k (St.again (St.bareOf fun s => s.ask () (St.S.compF id l)) t s).st).st.2.length : Int) ≠ size ∨ U (Crc.sum (St.chead t k (St.again (St.bareOf fun s => s.ask () (St.S.compF id l)) t s).st).st.2) ≠ sum) then some 6 else (St.chead t k (St.again (St.bareOf fun s => s.ask () (St.S.compF id l)) t s).st).r, (St.again (St.bareOf fun s => s.ask () (St.S.compF id l)) t s).k + (St.chead t k (St.again (St.bareOf fun s => s.ask () (St.S.compF id l)) t s).st).k, (St.chead t k (St.again (St.bareOf fun s => s.ask () (St.S.compF id l)) t s).st).st.1⟩
  else (St.again (St.bareOf fun s => s.ask () (St.S.compF id l)) t s)
theorem St.chead_lt {E : Nat → Prop} [hE : Told E] (t : Nat) (k : St.Nm) (s : St.S) (j : Nat) (h : (St.chead t k s).r = some j) : E j :=
  St.agn_in (E := E) (f := St.askOf fun s => s.ask [] (St.S.headF k)) (fun x => St.err_in (E := E) hE.e10 [] _ (St.head_in (E := E) hE.e6 k) x.1) t none (s, []) (by simp) j h

set_option maxRecDepth 100000 in
set_option maxHeartbeats 2000000 in
theorem CaS.comp {w0 w : World} {S D : Nat → Prop} {sb cb t n : Nat} {a : Int} {s : St.S} (h : CaS w0 S D sb cb t a s n w) (p : Nat → Addr) {E : Nat → Prop} [hE : Told E] (hs : SentsOn E w0 p) (htb : Tabs w0) (ht : 1 ≤ t ∧ t ≤ 8) (hn : n ≤ 800000) (id : Int) (hid : -9223372036854775808 ≤ id ∧ id ≤ 9223372036854775807) (l : Int) (hl : -9223372036854775808 ≤ l ∧ l ≤ 9223372036854775807)
    (k : List UInt8) (hk : k.length ≤ 100000) (size : Int) (sum : Int)
    (Ok : St.S → Prop) (hOk : ∀ s, Ok s → Ok (s.ask () (St.S.compF id l)).2) (hOs : ∀ s, Ok s → ∀ u, s.ups id = some u → ∀ k b, k ≤ 256 → St.joinN u.parts k = some b → b.length ≤ 1000000000) (h0 : Ok s) :
    Calls Tryz.prog 31 #[.pointer (some ⟨cb, 0, none⟩), .int .i64 id, .int .i64 l, encStr k, .int .i64 size, .int .u32 sum] w fun e w' => e = .returned (errR p (St.ccomp t id l k size sum s).r) ∧ ∃ S' D', CaS w0 S' D' sb cb t (a + (St.ccomp t id l k size sum s).k) (St.ccomp t id l k size sum s).st (n + t + t) w' ∧ CaGo S D (fun k => k = cb) S' D' w w' := by
  obtain ⟨W, hW⟩ : ∃ W, W = ((w.alloc (.cells #[.pointer (some ⟨cb, 0, none⟩)] 28)).alloc (.cells #[.int .i64 id] 3)).alloc (.cells #[.int .i64 l] 3) := ⟨_, rfl⟩
  obtain ⟨hb, hAg⟩ := caComplete_again h p hs ht (by omega) id hid l hl Ok hOk hOs h0 W hW
  obtain ⟨C, hC⟩ : ∃ C, C = (St.again (St.bareOf fun s => s.ask () (St.S.compF id l)) t s) := ⟨_, rfl⟩
  obtain ⟨R, hR⟩ : ∃ R, R = St.ccomp t id l k size sum s := ⟨_, rfl⟩
  have hlt : ∀ j, C.r = some j → E j := fun j hj => St.agn_in (E := E) (St.err_in (E := E) hE.e10 () _ (St.comp_in (E := E) hE.e4 hE.e6 id l)) t none s (by simp) j (hC ▸ hj)
  have hHd := fun (w2 : World) (S2 D2 : Nat → Prop) (h2 : CaS w0 S2 D2 sb cb t (a + C.k) C.st (n + t) w2) => h2.head p hs htb ht (by omega) k hk
  have hx0 : W.cell? ⟨w.heap.size, 0, none⟩ = some (.pointer (some ⟨cb, 0, none⟩)) := by
    rw [hW, World.cell?_alloc_lt _ _ _ (by simp <;> omega), World.cell?_alloc_lt _ _ _ (by simp <;> omega), World.cell?_alloc_mark]; rfl
  have hcl : cb < w.heap.size := (Array.getElem?_eq_some_iff.1 h.box).1
  have hzS : ¬ S w.heap.size := fun hS => by have := h.st.lt _ (.inl hS); omega
  rw [← hR]
  unfold St.ccomp at hR
  rw [← hC] at hAg hR
  have HX : Hid (∀ (w2 : World) (S2 D2 : Nat → Prop), CaGo S D (fun k => k = cb) S2 D2 W w2 → w2.cell? ⟨w.heap.size, 0, none⟩ = some (.pointer (some ⟨cb, 0, none⟩))) := hide (fun w2 S2 D2 hg => hg.cell hx0 hzS (by omega))
  have HG := hide (fun (w2 : World) (hw2 : Below w0.heap.size w0 w2) => hs.below hw2)
  have HA := hide hAg
  have HHD := hide hHd
  have HL := hide hlt
  have HHL := hide (fun j => St.chead_lt (E := E) t k C.st j)
  have HW := hide hW
  have HB := hide hb
  have HFIN : Hid (∀ w' (S' D' : Nat → Prop), R = C → CaS w0 S' D' sb cb t (a + C.k) C.st (n + t) w' → CaGo S D (fun k => k = cb) S' D' W w' → ∃ S' D', CaS w0 S' D' sb cb t (a + R.k) R.st (n + t + t) w' ∧ CaGo S D (fun k => k = cb) S' D' w w') := hide (fun w' S' D' e h1 h2 => ⟨S', D', e ▸ h1.mono (by omega), h2.ahead hb fun k hk => .inl hk⟩)
  clear h hs ht hn hid hl hk hOk hOs h0 hW hb hAg hC hlt hHd hx0 hcl hzS htb
  generalize hdd : C.doubt = d at *
  cases d
  · have e : R = C := by rw [hR]; simp
    have HE := hide e
    clear hR e
    go_enter Tryz.func31, Tryz.ntmps31
    go_wp2_with (first
      | (go_at_call 38; rw [← HW.out]; refine HA.out.mono ?_; rintro e w2 ⟨rfl, -, S', D', h1, h2⟩; have H1 := hide h1; have H2 := hide h2; clear h1 h2; generalize hev : errR p C.r = ev)
      | fail)
    go_ret
    exact ⟨by rw [HE.out, hev]; rfl, HFIN.out _ _ _ HE.out H1.out H2.out⟩
  · rcases hcr : C.r with _ | j
    · have e : R = C := by rw [hR, hcr]; simp
      have er : R.r = none := by rw [e, hcr]
      have HE := hide e
      rw [er]
      rw [hcr] at HA
      clear hR e er hcr
      have k1 := fun W => neq_of2 (nil_eql (p 6) W)
      unfold errR errV at *
      go_enter Tryz.func31, Tryz.ntmps31
      go_wp2_with (first
        | (go_at_call 38; rw [← HW.out]; refine HA.out.mono ?_; rintro e w2 ⟨rfl, -, S', D', h1, h2⟩; have H1 := hide h1; have H2 := hide h2; have g6 : w2.cell? ⟨2, 0, none⟩ = some (errV (p 6)) := (HG.out w2 h1.st.below).cell 6 hE.e6; unfold errV at g6; clear h1 h2)
        | fail)
      go_ret
      exact ⟨rfl, HFIN.out _ _ _ HE.out H1.out H2.out⟩
    · by_cases hj : j = 6
      · subst hj
        have hR2 : R = ⟨if (St.chead t k C.st).r = none ∧ (((St.chead t k C.st).st.2.length : Int) ≠ size ∨ U (Crc.sum (St.chead t k C.st).st.2) ≠ sum) then some 6 else (St.chead t k C.st).r, C.k + (St.chead t k C.st).k, (St.chead t k C.st).st.1⟩ := by rw [hR, hcr]; simp
        have HR2 := hide hR2
        clear hR hR2
        rw [hcr] at HA
        clear hcr
        obtain ⟨V, hV⟩ : ∃ V, V = St.chead t k C.st := ⟨_, rfl⟩
        rw [← hV] at HR2 HHL HHD
        clear hV
        have HFN : Hid (∀ w2 w' (S2 D2 S' D' : Nat → Prop), CaGo S D (fun k => k = cb) S2 D2 W w2 → CaS w0 S' D' sb cb t (a + C.k + V.k) V.st.1 (n + t + t) w' → CaGo S2 D2 (fun k => k = cb) S' D' w2 w' → ∃ S' D', CaS w0 S' D' sb cb t (a + R.k) R.st (n + t + t) w' ∧ CaGo S D (fun k => k = cb) S' D' w w') := hide (fun w2 w' S2 D2 S' D' h1 h2 h3 => ⟨S', D', by rw [HR2.out]; simpa [Int.add_assoc] using h2, (h1.trans h3).ahead HB.out fun k hk => .inl hk⟩)
        have k1 := fun W => neq_of1 (eql_same (p 6) W)
        rcases hvr : V.r with _ | i
        · rw [hvr] at HR2 HHD
          obtain ⟨len, hlen⟩ : ∃ len : Int, len = (V.st.2.length : Int) := ⟨_, rfl⟩
          obtain ⟨sm, hsm⟩ : ∃ sm : Int, sm = U (Crc.sum V.st.2) := ⟨_, rfl⟩
          rw [← hlen, ← hsm] at HR2 HHD
          clear hlen hsm hvr
          by_cases hq : len = size
          · by_cases hq2 : sm = sum
            · have er : R.r = none := by rw [HR2.out]; simp [hq, hq2]
              rw [er]
              subst hq hq2
              clear er
              unfold errR errV at *
              go_enter Tryz.func31, Tryz.ntmps31
              go_wp2_with (first
                | (go_at_call 38; rw [← HW.out]; refine HA.out.mono ?_; rintro e w2 ⟨rfl, -, S2, D2, h1, h2⟩; have H1 := hide h1; have H2 := hide h2; have cx := HX.out w2 S2 D2 h2; have g6 : w2.cell? ⟨2, 0, none⟩ = some (errV (p 6)) := (HG.out w2 h1.st.below).cell 6 hE.e6; unfold errV at g6; clear h1 h2)
                | (go_at_call 45; refine (HHD.out _ _ _ H1.out).mono ?_; rintro e w3 ⟨rfl, S3, D3, h3, h4⟩; have H3 := hide h3; have H4 := hide h4; have g62 : w3.cell? ⟨2, 0, none⟩ = some (errV (p 6)) := (HG.out w3 h3.st.below).cell 6 hE.e6; unfold errV at g62; clear h3 h4)
                | fail)
              go_ret
              exact ⟨rfl, HFN.out _ _ _ _ _ _ H2.out H3.out H4.out⟩
            · have er : R.r = some 6 := by rw [HR2.out]; simp [hq2]
              rw [er]
              have bq : (sm != sum) = true := by simpa using hq2
              subst hq
              clear er hq2
              unfold errR errV at *
              go_enter Tryz.func31, Tryz.ntmps31
              go_wp2_with (first
                | (go_at_call 38; rw [← HW.out]; refine HA.out.mono ?_; rintro e w2 ⟨rfl, -, S2, D2, h1, h2⟩; have H1 := hide h1; have H2 := hide h2; have cx := HX.out w2 S2 D2 h2; have g6 : w2.cell? ⟨2, 0, none⟩ = some (errV (p 6)) := (HG.out w2 h1.st.below).cell 6 hE.e6; unfold errV at g6; clear h1 h2)
                | (go_at_call 45; refine (HHD.out _ _ _ H1.out).mono ?_; rintro e w3 ⟨rfl, S3, D3, h3, h4⟩; have H3 := hide h3; have H4 := hide h4; have g62 : w3.cell? ⟨2, 0, none⟩ = some (errV (p 6)) := (HG.out w3 h3.st.below).cell 6 hE.e6; unfold errV at g62; clear h3 h4)
                | fail)
              go_ret
              skip
              exact ⟨rfl, HFN.out _ _ _ _ _ _ H2.out H3.out H4.out⟩
          · have er : R.r = some 6 := by rw [HR2.out]; simp [hq]
            rw [er]
            have bq : (len != size) = true := by simpa using hq
            clear er hq
            unfold errR errV at *
            go_enter Tryz.func31, Tryz.ntmps31
            go_wp2_with (first
              | (go_at_call 38; rw [← HW.out]; refine HA.out.mono ?_; rintro e w2 ⟨rfl, -, S2, D2, h1, h2⟩; have H1 := hide h1; have H2 := hide h2; have cx := HX.out w2 S2 D2 h2; have g6 : w2.cell? ⟨2, 0, none⟩ = some (errV (p 6)) := (HG.out w2 h1.st.below).cell 6 hE.e6; unfold errV at g6; clear h1 h2)
              | (go_at_call 45; refine (HHD.out _ _ _ H1.out).mono ?_; rintro e w3 ⟨rfl, S3, D3, h3, h4⟩; have H3 := hide h3; have H4 := hide h4; have g62 : w3.cell? ⟨2, 0, none⟩ = some (errV (p 6)) := (HG.out w3 h3.st.below).cell 6 hE.e6; unfold errV at g62; clear h3 h4)
              | fail)
            go_ret
            exact ⟨rfl, HFN.out _ _ _ _ _ _ H2.out H3.out H4.out⟩
        · have er : R.r = some i := by rw [HR2.out]; simp [hvr]
          rw [er]
          rw [hvr] at HHD
          have k3 := eql_nil (p i)
          clear er hvr
          unfold errR errV at *
          go_enter Tryz.func31, Tryz.ntmps31
          go_wp2_with (first
            | (go_at_call 38; rw [← HW.out]; refine HA.out.mono ?_; rintro e w2 ⟨rfl, -, S2, D2, h1, h2⟩; have H1 := hide h1; have H2 := hide h2; have cx := HX.out w2 S2 D2 h2; have g6 : w2.cell? ⟨2, 0, none⟩ = some (errV (p 6)) := (HG.out w2 h1.st.below).cell 6 hE.e6; unfold errV at g6; clear h1 h2)
            | (go_at_call 45; refine (HHD.out _ _ _ H1.out).mono ?_; rintro e w3 ⟨rfl, S3, D3, h3, h4⟩; have H3 := hide h3; have H4 := hide h4; have g62 : w3.cell? ⟨2, 0, none⟩ = some (errV (p 6)) := (HG.out w3 h3.st.below).cell 6 hE.e6; unfold errV at g62; clear h3 h4)
            | fail)
          go_ret
          exact ⟨rfl, HFN.out _ _ _ _ _ _ H2.out H3.out H4.out⟩
      · have e : R = C := by rw [hR, hcr]; simp [hj]
        have er : R.r = some j := by rw [e, hcr]
        have hj19 := HL.out j hcr
        have HE := hide e
        rw [er]
        have K1 := hide (fun (W : World) (hw2 : Below w0.heap.size w0 W) => neq_of1 (eql_other (p j) (p 6) W ((HG.out W hw2).ne j 6 hj19 hE.e6 hj) ((HG.out W hw2).blk j hj19).2 ((HG.out W hw2).blk 6 hE.e6).2))
        rw [hcr] at HA
        clear hR e er hcr hj
        unfold errR errV at *
        go_enter Tryz.func31, Tryz.ntmps31
        go_wp2_with (first
          | (go_at_call 38; rw [← HW.out]; refine HA.out.mono ?_; rintro e w2 ⟨rfl, -, S', D', h1, h2⟩; have H1 := hide h1; have H2 := hide h2; have k1 := K1.out w2 h1.st.below; have g6 : w2.cell? ⟨2, 0, none⟩ = some (errV (p 6)) := (HG.out w2 h1.st.below).cell 6 hE.e6; unfold errV at g6; clear h1 h2)
          | fail)
        go_ret
        exact ⟨rfl, HFIN.out _ _ _ HE.out H1.out H2.out⟩
end Go.Proofs.YtegaahcelogmlaaGreatDoor

namespace Go.Proofs.YtegaahcelogmlaaGreatDoor
open Go.RowKit

/-- A slice that reads as these numbers of 64 bits. -/
def Nums (w : World) (A : Option Addr) (us : List Nat) : Prop :=
  us = [] ∨ ∃ b off, A = some ⟨b, off, none⟩ ∧ b < w.heap.size ∧ ∀ k, k < us.length → w.cell? ⟨b, off + k, none⟩ = some (.int .u64 (us.getD k 0 : Nat))
end Go.Proofs.YtegaahcelogmlaaGreatDoor

namespace Go.Proofs.YtegaahcelogmlaaGreatDoor
open Go.RowKit Go.ChangeShapes Go.WideShapes Go.ChangeAt

theorem cells_i64 : Tryz.prog.cellsOf 2 = 1 := by kernel_rfl
theorem cells_u64 : Tryz.prog.cellsOf 128 = 1 := by kernel_rfl
theorem cells_bytes : Tryz.prog.cellsOf 22 = 1 := by kernel_rfl

/-- A slice of integers of one kind. -/
theorem kinds_of {H : Type} {enc : TypeId × Value → H} {W : World} {base : Nat} {spare : Nat → Bool} {held : Bool} {a : Option Addr} {len cap : Nat} {d : DataW H} {p : List MemPlace} {t e : TypeId} {K : IntKind}
    (ht : Tryz.prog.underlying t = some (.slice e)) (he : Tryz.prog.underlying e = some (.int K)) (ce : Tryz.prog.cellsOf e = 1)
    (h : DataW.Trod enc Tryz.prog W base spare held t (.slice a len cap) d p) : ∃ zs : List Int, zs.length = len ∧ len ≤ cap ∧ cap ≤ 9223372036854775807 ∧ (∀ k, k < len → (Lit.int K (zs.getD k 0)).wf = true) ∧
      (zs = [] ∨ ∃ b off, a = some ⟨b, off, none⟩ ∧ b < W.heap.size ∧ ∀ k, k < zs.length → W.cell? ⟨b, off + k, none⟩ = some (.int K (zs.getD k 0))) := by
  obtain ⟨fuel, hf⟩ := h
  rcases open_ints ht he ce hf with ⟨hcs, _⟩ | ⟨x, l, c, zs, hcs, _, hl, hm, hz, _, hcell, hwz⟩
  · simp [Value.cells] at hcs
    obtain ⟨rfl, rfl, rfl⟩ := hcs
    exact ⟨[], rfl, Nat.le_refl _, by omega, fun k hk => by omega, .inl rfl⟩
  · simp [Value.cells] at hcs
    obtain ⟨rfl, rfl, rfl⟩ := hcs
    have hzl : len ≤ zs.length := by split at hz <;> omega
    have e : ∀ k, k < len → (zs.take len).getD k 0 = zs.getD k 0 := fun k hk => by simp [List.getD, hk]
    refine ⟨zs.take len, by simp; omega, hl, by simpa [maxLen] using hm, fun k hk => ?_, ?_⟩
    · rw [e k hk]
      have hmem : zs.getD k 0 ∈ zs := by
        simp only [List.getD, List.getElem?_eq_getElem (show k < zs.length by omega), Option.getD_some]
        exact List.getElem_mem _
      exact hwz _ hmem
    · by_cases h0 : len = 0
      · subst h0; exact .inl (by simp)
      · obtain ⟨b, off, spot⟩ := x
        have hc := hcell 0 (by omega)
        have hspot : spot = none := by simpa [Addr.add] using World.cell?_spot hc
        subst hspot
        refine .inr ⟨b, off, rfl, ?_, fun k hk => ?_⟩
        · rcases Nat.lt_or_ge b W.heap.size with h | h
          · exact h
          · exfalso
            simp [World.cell?, Addr.add, Array.getElem?_eq_none h] at hc
        · have hk' : k < len := by simp at hk; omega
          have hck := hcell k (by omega)
          rw [Addr.add_lit] at hck
          rw [hck, e k hk']
theorem reads_of_ints {W : World} {a : Addr} {zs : List Int} {n cap : Nat} (hl : n ≤ cap) (hz : zs.length = cap) (hw : ∀ z ∈ zs, (Lit.int .u8 z).wf = true) (hcell : ∀ c, c < cap → W.cell? (a.add c) = some (.int .u8 (zs.getD c 0))) :
    Reads W (some a) ((zs.take n).map fun z => UInt8.ofNat z.toNat) := by
  by_cases h0 : n = 0
  · subst h0; exact .inl (by simp)
  · obtain ⟨b, off, spot⟩ := a
    have hc := hcell 0 (by omega)
    have hspot : spot = none := by simpa [Addr.add] using World.cell?_spot hc
    subst hspot
    refine .inr ⟨b, off, rfl, ?_, fun k hk => ?_⟩
    · rcases Nat.lt_or_ge b W.heap.size with h | h
      · exact h
      · exfalso
        simp [World.cell?, Addr.add, Array.getElem?_eq_none h] at hc
    · have hk' : k < n := by simp at hk; omega
      have hck := hcell k (by omega)
      rw [Addr.add_lit] at hck
      rw [hck]
      congr 2
      have hmem : zs.getD k 0 ∈ zs := by
        simp only [List.getD, List.getElem?_eq_getElem (show k < zs.length by omega), Option.getD_some]
        exact List.getElem_mem _
      have hb := bounds_u8 (hw _ hmem)
      have e : ((zs.take n).map fun z => UInt8.ofNat z.toNat).getD k 0 = UInt8.ofNat (zs.getD k 0).toNat := by
        simp [List.getD, hk', show k < zs.length by omega]
      rw [e]
      unfold B
      rw [UInt8.toNat_ofNat']
      omega

theorem texts_of {H : Type} {enc : TypeId × Value → H} {W : World} {base : Nat} {held : Bool} {a : Option Addr} {len cap : Nat} {d : DataW H} {p : List MemPlace}
    (h : DataW.Trod enc Tryz.prog W base (fun _ => true) held 71 (.slice a len cap) d p) : ∃ ps : List Part, ps.length = len ∧ len ≤ cap ∧ cap ≤ 9223372036854775807 ∧ ReadsAll W a ps := by
  obtain ⟨fuel, hf⟩ := h
  rcases Go.Deep.open_int_rows Tryz.underlying71 Tryz.underlying22 Tryz.underlying5 cells_bytes cells_u8 hf with ⟨hcs, _⟩ | ⟨x, l, c, A, L, C, Z, hcs, _, hl, hm, _, hrow⟩
  · simp [Value.cells] at hcs
    obtain ⟨rfl, rfl, rfl⟩ := hcs
    exact ⟨[], rfl, Nat.le_refl _, by omega, .inl rfl⟩
  · simp [Value.cells] at hcs
    obtain ⟨rfl, rfl, rfl⟩ := hcs
    refine ⟨(List.range len).map fun r => ⟨A r, C r, ((Z r).take (L r)).map fun z => UInt8.ofNat z.toNat⟩, by simp, hl, by simpa [maxLen] using hm, ?_⟩
    by_cases h0 : len = 0
    · subst h0; exact .inl (by simp)
    · obtain ⟨b, off, spot⟩ := x
      have hc := (hrow 0 (by omega)).1
      have hspot : spot = none := by simpa [Addr.add] using World.cell?_spot hc
      subst hspot
      refine .inr ⟨b, off, rfl, ?_, fun k hk => ?_⟩
      · rcases Nat.lt_or_ge b W.heap.size with h | h
        · exact h
        · exfalso
          simp [World.cell?, Addr.add, Array.getElem?_eq_none h] at hc
      · have hk' : k < len := by simpa using hk
        obtain ⟨r1, r2, r3, r4, r5, r6, r7⟩ := hrow k (by omega)
        have hlen : (((Z k).take (L k)).map fun z => UInt8.ofNat z.toNat).length = L k := by simp; omega
        rw [Addr.add_lit] at r1
        simp only [List.getElem_map, List.getElem_range]
        refine ⟨?_, ?_, ?_⟩
        · rw [r1]; unfold Part.val; simp only; rw [hlen]
        · rw [hlen]; have : C k ≤ maxLen := r3; unfold maxLen at this; omega
        · cases hA : A k with
          | none =>
            refine .inl (List.eq_nil_of_length_eq_zero ?_)
            rw [hlen]; have := r6 hA; omega
          | some a' => exact reads_of_ints r2 r4 r5 (r7 a' hA).2
end Go.Proofs.YtegaahcelogmlaaGreatDoor

namespace Go.Proofs.YtegaahcelogmlaaGreatDoor
open Go.RowKit Go.Maps Go.ChangeShapes Go.WideShapes Go.ChangeAt

theorem ReadsAll.at_ {w : World} {A : Option Addr} {ps : List Part} (h : ReadsAll w A ps) (k : Nat) (hk : k < ps.length) : ∃ b off, A = some ⟨b, off, none⟩ ∧ b < w.heap.size ∧ w.cell? ⟨b, off + k, none⟩ = some ps[k].val ∧ Reads w ps[k].a ps[k].l := by
  rcases h with h | ⟨b, off, e, hlt, hc⟩
  · rw [h] at hk; simp at hk
  · exact ⟨b, off, e, hlt, (hc k hk).1, (hc k hk).2.2⟩
theorem textArgs_of {H : Type} {enc : TypeId × Value → H} {W : World} {base : Nat} {held : Bool} {a : Option Addr} {len cap : Nat} {d : DataW H} {p : List MemPlace}
    (h : DataW.Trod enc Tryz.prog W base (fun _ => true) held 71 (.slice a len cap) d p) : ∃ ps : List Part, ps.length = len ∧ len ≤ cap ∧ cap ≤ 9223372036854775807 ∧ ReadsAll W a ps ∧ ∀ k (h : k < ps.length), ps[k].l.length ≤ ps[k].cap ∧ ps[k].cap ≤ 9223372036854775807 ∧ (ps[k].a = none → ps[k].cap = 0) := by
  obtain ⟨fuel, hf⟩ := h
  rcases Go.Deep.open_int_rows Tryz.underlying71 Tryz.underlying22 Tryz.underlying5 cells_bytes cells_u8 hf with ⟨hcs, _⟩ | ⟨x, l, c, A, L, C, Z, hcs, _, hl, hm, _, hrow⟩
  · simp [Value.cells] at hcs
    obtain ⟨rfl, rfl, rfl⟩ := hcs
    exact ⟨[], rfl, Nat.le_refl _, by omega, .inl rfl, fun k h => by simp at h⟩
  · simp [Value.cells] at hcs
    obtain ⟨rfl, rfl, rfl⟩ := hcs
    refine ⟨(List.range len).map fun r => ⟨A r, C r, ((Z r).take (L r)).map fun z => UInt8.ofNat z.toNat⟩, by simp, hl, by simpa [maxLen] using hm, ?_, fun k hk => ?_⟩
    rotate_left
    · have hk' : k < len := by simpa using hk
      obtain ⟨r1, r2, r3, r4, r5, r6, r7⟩ := hrow k (by omega)
      have hlen : (((Z k).take (L k)).map fun z => UInt8.ofNat z.toNat).length = L k := by simp; omega
      simp only [List.getElem_map, List.getElem_range]
      refine ⟨by omega, by simpa [maxLen] using r3, fun e => ?_⟩
      have := r6 e; omega
    by_cases h0 : len = 0
    · subst h0; exact .inl (by simp)
    · obtain ⟨b, off, spot⟩ := x
      have hc := (hrow 0 (by omega)).1
      have hspot : spot = none := by simpa [Addr.add] using World.cell?_spot hc
      subst hspot
      refine .inr ⟨b, off, rfl, ?_, fun k hk => ?_⟩
      · rcases Nat.lt_or_ge b W.heap.size with h | h
        · exact h
        · exfalso
          simp [World.cell?, Addr.add, Array.getElem?_eq_none h] at hc
      · have hk' : k < len := by simpa using hk
        obtain ⟨r1, r2, r3, r4, r5, r6, r7⟩ := hrow k (by omega)
        have hlen : (((Z k).take (L k)).map fun z => UInt8.ofNat z.toNat).length = L k := by simp; omega
        rw [Addr.add_lit] at r1
        simp only [List.getElem_map, List.getElem_range]
        refine ⟨?_, ?_, ?_⟩
        · rw [r1]; unfold Part.val; simp only; rw [hlen]
        · rw [hlen]; have : C k ≤ maxLen := r3; unfold maxLen at this; omega
        · cases hA : A k with
          | none =>
            refine .inl (List.eq_nil_of_length_eq_zero ?_)
            rw [hlen]; have := r6 hA; omega
          | some a' => exact reads_of_ints r2 r4 r5 (r7 a' hA).2
theorem OwnZ.ints {w : World} {base : Nat} {v : Value} {l : List Int} (h : OwnZ w base v l) (hz : ∀ z ∈ l, -9223372036854775808 ≤ z ∧ z ≤ 9223372036854775807) : ∃ A c, v = .slice A l.length c ∧ IntsArg w A c l := by
  rcases h.2 with ⟨e, h0⟩ | ⟨g, cap, cur, e, hg, hh, hc, hm, hs, ht⟩
  · exact ⟨none, 0, by rw [e, h0], ⟨by omega, by omega, fun _ => rfl, fun j hj => by omega, hz⟩⟩
  · refine ⟨_, cap, e, ⟨hc, by simpa [maxLen] using hm, fun e => (by cases e), fun j hj => ⟨g, 0, rfl, ?_⟩, hz⟩⟩
    have hc := World.ownsRow.cells (g := g) h (by rw [e]; rfl) j (.int .i64 (l.getD j 0)) (by simp [List.getD, hj])
    rwa [Addr.add_lit, Nat.zero_add] at *
theorem own_z {w : World} {base n : Nat} {v : Value} {l : List Int} (h : OwnZ w base v l) (hn : l.length = n) (hz : ∀ z ∈ l, -9223372036854775808 ≤ z ∧ z ≤ 9223372036854775807) : ∃ A c, v = .slice A n c ∧ IntsArg w A c l := by
  subst hn; exact h.ints hz
theorem St.lists_nil {α : Type} {f : Int → Option α} {l : List Int} (h : St.ListsI f l) (hf : ∀ x, f x = none) : l = [] :=
  List.eq_nil_iff_forall_not_mem.2 fun x hx => (h.2 x).1 hx (hf x)
theorem St.lists_one {α : Type} {f : Int → Option α} {l : List Int} (h : St.ListsI f l) (z : Int) (h1 : f z ≠ none) (hf : ∀ x, x ≠ z → f x = none) : l = [z] := by
  obtain ⟨hp, hm⟩ := h
  match l, hp, hm with
  | [], _, hm => exact absurd ((hm z).2 h1) (by simp)
  | [a], _, hm =>
    have : a = z := by
      by_cases e : a = z
      · exact e
      · exact absurd (hf a e) ((hm a).1 (by simp))
    rw [this]
  | a :: b :: t, hp, hm =>
    have e1 : a = z := Classical.byContradiction fun e => (hm a).1 (by simp) (hf a e)
    have e2 : b = z := Classical.byContradiction fun e => (hm b).1 (by simp) (hf b e)
    have := (List.pairwise_cons.1 hp).1 b (by simp)
    omega
theorem St.ask_free {α : Type} (s : St.S) (h : s.script = []) (z : α) (f : St.S → (α × Option Nat) × St.S) : s.ask z f = f s.took := by
  have ho : s.out = 0 := by simp [St.S.out, h]
  unfold St.S.ask
  rw [ho, if_neg (by omega), if_neg (by omega)]
theorem below_drew_q {w w' : World} (h : ∃ k, w' = w.drewN k) : Below w.heap.size w w' := by
  obtain ⟨q, rfl⟩ := h; exact below_drewN (Below.refl _ _) q
theorem StS.setB {w0 w : World} {S D : Nat → Prop} {sb n : Nat} {s : St.S} (h : StS w0 S D sb s n w) (b i : Nat) (v : Value) (hS : ¬ S b) (hD : ¬ D b) (h0 : w0.heap.size ≤ b) : StS w0 S D sb s n (w.setCell ⟨b, i, none⟩ v) :=
  ⟨h.st.kept (by simp) fun k hk _ => Below.heap_setCell _ _ _ _ (by show k ≠ b; rintro rfl; rcases hk with hk | hk; exact hS hk; exact hD hk), h.lo, h.below.setCell (p := ⟨b, i, none⟩) h0 v, h.calls, h.failed⟩
/-- One upload, open, with these parts of it. -/
structure St.AtP (k : St.Nm) (f : Int → Option (List UInt8)) (s : St.S) : Prop where
  script : s.script = []
  up : s.ups 1 = some ⟨k, f⟩
  ups : ∀ x, x ≠ 1 → s.ups x = none
  obj : s.objs k = none
structure St.AtQ (k : St.Nm) (b : Option (List UInt8)) (s : St.S) : Prop where
  script : s.script = []
  ups : ∀ x, s.ups x = none
  obj : s.objs k = b
theorem St.start_p (k : St.Nm) (hv : Dk.valid k = true) : (St.S.new.start k).1 = (1, none) ∧ St.AtP k (fun _ => none) (St.S.new.start k).2 := by
  unfold St.S.start
  rw [St.ask_free _ rfl]
  unfold St.S.startF
  rw [if_pos hv]
  exact ⟨rfl, rfl, by simp [St.upd, St.S.took, St.S.new], fun x hx => by simp [St.upd, St.S.took, St.S.new, hx], rfl⟩
theorem St.took_plain {s : St.S} (h : s.script = []) : s.took.script = [] ∧ s.took.ups = s.ups ∧ s.took.objs = s.objs := ⟨by simp [St.S.took, h], rfl, rfl⟩
theorem St.AtP.part {k : St.Nm} {f : Int → Option (List UInt8)} {s : St.S} (h : St.AtP k f s) (n : Int) (hn : 0 ≤ n ∧ n < 256) (b : List UInt8) : (s.part 1 n b).1.2 = none ∧ St.AtP k (St.upd f n (some b)) (s.part 1 n b).2 := by
  obtain ⟨h1, h2, h3⟩ := St.took_plain h.script
  unfold St.S.part
  rw [St.ask_free _ h.script]
  unfold St.S.partF
  rw [h2, h.up]
  simp only
  rw [if_neg (by omega)]
  exact ⟨rfl, h1, by simp [St.upd], fun x hx => by simp [St.upd, hx]; exact h.ups x hx, by rw [← h.obj, ← h3]⟩
theorem St.AtP.comp_bad {k : St.Nm} {f : Int → Option (List UInt8)} {s : St.S} (h : St.AtP k f s) (n : Nat) (hn : n ≤ 256) (hj : St.joinN f n = none) : (s.comp 1 n).1.2 = some 4 ∧ St.AtP k f (s.comp 1 n).2 := by
  obtain ⟨h1, h2, h3⟩ := St.took_plain h.script
  unfold St.S.comp
  rw [St.ask_free _ h.script]
  unfold St.S.compF
  rw [h2, h.up]
  simp only
  rw [if_neg (by omega), Int.toNat_natCast, hj]
  exact ⟨rfl, h1, h2 ▸ h.up, h2 ▸ h.ups, h3 ▸ h.obj⟩
theorem St.AtP.comp {k : St.Nm} {f : Int → Option (List UInt8)} {s : St.S} (h : St.AtP k f s) (n : Nat) (hn : n ≤ 256) (b : List UInt8) (hj : St.joinN f n = some b) : (s.comp 1 n).1.2 = none ∧ St.AtQ k (some b) (s.comp 1 n).2 := by
  obtain ⟨h1, h2, h3⟩ := St.took_plain h.script
  unfold St.S.comp
  rw [St.ask_free _ h.script]
  unfold St.S.compF
  rw [h2, h.up]
  simp only
  rw [if_neg (by omega), Int.toNat_natCast, hj]
  refine ⟨rfl, h1, fun x => ?_, by simp [St.upd]⟩
  by_cases e : x = 1
  · simp [St.upd, e]
  · simp [St.upd, e]; exact h.ups x e
theorem St.AtP.abort {k : St.Nm} {f : Int → Option (List UInt8)} {s : St.S} (h : St.AtP k f s) : (s.abort 1).1.2 = none ∧ St.AtQ k none (s.abort 1).2 := by
  obtain ⟨h1, h2, h3⟩ := St.took_plain h.script
  unfold St.S.abort
  rw [St.ask_free _ h.script]
  unfold St.S.abortF
  rw [h2, h.up]
  refine ⟨rfl, h1, fun x => ?_, h3 ▸ h.obj⟩
  by_cases e : x = 1
  · simp [St.upd, e]
  · simp [St.upd, e]; exact h.ups x e
theorem St.AtQ.part {k : St.Nm} {o : Option (List UInt8)} {s : St.S} (h : St.AtQ k o s) (z n : Int) (b : List UInt8) : (s.part z n b).1.2 = some 6 ∧ St.AtQ k o (s.part z n b).2 := by
  obtain ⟨h1, h2, h3⟩ := St.took_plain h.script
  unfold St.S.part
  rw [St.ask_free _ h.script]
  unfold St.S.partF
  rw [h2, h.ups z]
  exact ⟨rfl, h1, h2 ▸ h.ups, h3 ▸ h.obj⟩
theorem St.AtQ.comp {k : St.Nm} {o : Option (List UInt8)} {s : St.S} (h : St.AtQ k o s) (z n : Int) : (s.comp z n).1.2 = some 6 ∧ St.AtQ k o (s.comp z n).2 := by
  obtain ⟨h1, h2, h3⟩ := St.took_plain h.script
  unfold St.S.comp
  rw [St.ask_free _ h.script]
  unfold St.S.compF
  rw [h2, h.ups z]
  exact ⟨rfl, h1, h2 ▸ h.ups, h3 ▸ h.obj⟩
theorem St.joinN_len {f : Int → Option (List UInt8)} (B : Nat) (hf : ∀ x b, f x = some b → b.length ≤ B) : ∀ (n : Nat) (b : List UInt8), St.joinN f n = some b → b.length ≤ B * n
  | 0, b, h => by cases h; simp
  | n + 1, b, h => by
    unfold St.joinN at h
    cases h1 : St.joinN f n with
    | none => simp [h1] at h
    | some a =>
      cases h2 : f n with
      | none => simp [h1, h2] at h
      | some c =>
        simp [h1, h2] at h
        subst h
        have := St.joinN_len B hf n a h1
        have := hf _ _ h2
        rw [List.length_append, Nat.mul_succ]; omega
/-- The parts that so many rounds laid. -/
def partsP (ls : List (List UInt8)) (ks : Nat → Nat) : Nat → Int → Option (List UInt8)
  | 0 => fun _ => none
  | j + 1 => St.upd (partsP ls ks j) (ks j : Nat) (some (ls.getD (ks j) []))
theorem partsP_some (ls : List (List UInt8)) (ks : Nat → Nat) : ∀ (j : Nat) (x : Nat) (b : List UInt8), partsP ls ks j x = some b → b = ls.getD x []
  | 0, x, b, h => by cases h
  | j + 1, x, b, h => by
    unfold partsP St.upd at h
    split at h
    · next e => have : x = ks j := by omega
                subst this; exact (Option.some.inj h).symm
    · exact partsP_some ls ks j x b h
theorem partsP_len (ls : List (List UInt8)) (ks : Nat → Nat) (B : Nat) (hB : ∀ l ∈ ls, l.length ≤ B) : ∀ (j : Nat) (x : Int) (b : List UInt8), partsP ls ks j x = some b → b.length ≤ B
  | 0, x, b, h => by cases h
  | j + 1, x, b, h => by
    unfold partsP St.upd at h
    split at h
    · have := Option.some.inj h
      subst this
      by_cases hk : ks j < ls.length
      · have := hB _ (List.getElem_mem hk); simpa [List.getD, hk] using this
      · simp [List.getD, hk]
    · exact partsP_len ls ks B hB j x b h
theorem upd_upd {κ α : Type} [DecidableEq κ] (f : κ → Option α) (k : κ) (u v : Option α) : St.upd (St.upd f k u) k v = St.upd f k v := by
  funext x; unfold St.upd; split <;> rfl
/-- Whether one of the first is missing. -/
def missP (f : Int → Option (List UInt8)) : Nat → Bool
  | 0 => false
  | i + 1 => missP f i || (f (i : Nat)).isNone
theorem missP_true {f : Int → Option (List UInt8)} : ∀ {n : Nat}, missP f n = true → St.joinN f n = none
  | 0, h => by cases h
  | n + 1, h => by
    unfold missP at h
    unfold St.joinN
    rcases Bool.or_eq_true_iff.1 h with h | h
    · rw [missP_true h]
    · have : f (n : Nat) = none := by simpa using h
      rw [this]; split <;> simp_all
theorem missP_false {f : Int → Option (List UInt8)} {ps : List Part} : ∀ {n : Nat}, n ≤ ps.length → (∀ (x : Nat) b, f x = some b → b = (ps.map Part.l).getD x []) → missP f n = false → St.joinN f n = some (flat (ps.take n))
  | 0, _, _, _ => by simp [St.joinN, flat]
  | n + 1, hn, hf, h => by
    unfold missP at h
    obtain ⟨h1, h2⟩ := Bool.or_eq_false_iff.1 h
    have ih := missP_false (n := n) (by omega) hf h1
    cases h3 : f (n : Nat) with
    | none => simp [h3] at h2
    | some b =>
      have hb := hf n b h3
      unfold St.joinN
      rw [ih, h3]
      simp only
      have e : ps.take (n + 1) = ps.take n ++ [ps[n]] := List.take_succ_eq_append_getElem (by omega)
      have e2 : flat (ps.take n ++ [ps[n]]) = flat (ps.take n) ++ ps[n].l := by unfold flat; rw [List.flatMap_append]; simp
      rw [e, e2, hb]
      simp [List.getD, show n < ps.length by omega]
end Go.Proofs.YtegaahcelogmlaaGreatDoor
