/-
  A store's Head.
  A client's Head.
  Rows of texts that came in; the reference's In and Rising.
  A store's Delete.
  StoreLists, plainly; a row of texts apart from a store.
  CallReads, plainly: a store of one object.
-/
import Derived.Test.YtlflijhnlcdakaaGreatDoorR2
import Derived.Test.YtlflijhnlcdakaaGreatDoorR1
import Derived.Test.YtlflijhnlcdakaaGreatDoorT1
import Derived.SliceStrings
import Derived.Lib.Hide
import Derived.LoopTactic
import Derived.Deep.LoopGhost
import Derived.Deep.RegionLaw
import Derived.Test.YtlflijhnlcdakaaGreatDoorT4
import Derived.Test.YtlflijhnlcdakaaGreatDoorU1
namespace Go.Proofs.YtlflijhnlcdakaaGreatDoor
open Go.RowKit Go.Maps Crc

set_option maxRecDepth 100000 in
set_option maxHeartbeats 1000000 in
/-- The closure of Head. -/
theorem stHead1_any {w : World} {sb ob ub : Nat} {sv : Value} {ov : St.Nm → Option Value} {pb : Int → Nat} {pv : Int → Int → Option Value} {s : St.S} {m : Nat} {S D : Nat → Prop} (h : StoreL w sb ob ub sv ov pb pv s m S D) (p : Nat → Addr)
    (hs6 : w.cell? ⟨1, 0, none⟩ = some (errV (p 6))) (xb nb : Nat) (k : List UInt8) (hk : k.length ≤ 1000000000)
    (c1 : w.cell? ⟨xb, 0, none⟩ = some (.pointer (some ⟨sb, 0, none⟩))) (c2 : w.cell? ⟨nb, 0, none⟩ = some (encStr k)) :
    Calls Tryz.prog 83 #[.pointer (some ⟨xb, 0, none⟩), .pointer (some ⟨nb, 0, none⟩)] w fun e w' => ∃ A c, e = .returned (.tuple #[.slice A (s.headF k).1.1.length c, errR p (s.headF k).1.2]) ∧ Arg w' A c (s.headF k).1.1 ∧ (s.headF k).1.1.length ≤ 1000000000 ∧ (s.headF k).2 = s ∧ Below w.heap.size w w' := by
  obtain ⟨A, c, hl, hle, ha⟩ := h.lookObj k (by omega)
  have b0 : w.cell? ⟨sb, 0, none⟩ = some (.map (some ob)) := box_cell h.box 0
  unfold errV at hs6
  obtain ⟨r, hr⟩ : ∃ r, s.headF k = r := ⟨_, rfl⟩
  rw [hr]
  unfold St.S.headF at hr
  clear h
  cases ho : s.objs k with
  | none =>
    rw [ho] at hl hr
    subst hr
    simp only [Option.getD_none, Option.isSome_none] at hl
    clear hle ha
    go_enter Tryz.func83, Tryz.ntmps83
    go_wp2_with fail
    go_quiet (fail)
    go_wp2_with fail
    go_quiet (fail)
    go_wp2_with fail
    go_returns
    exact ⟨none, 0, by first | rfl | trivial, ⟨by simp, by omega, fun _ => rfl, .inl rfl⟩, by simp, by trivial, below_drewN (below_drewN (Below.refl _ _) _) _⟩
  | some b =>
    rw [ho] at hl hle ha hr
    simp only at hr
    subst hr
    simp only [Option.getD_some, Option.isSome_some] at hl hle ha
    clear ho
    have HA := hide ha
    simp only
    generalize hbl : b.length = L at *
    have HLE := hide hle
    clear ha hbl hle
    go_enter Tryz.func83, Tryz.ntmps83
    go_wp2_with fail
    go_quiet (fail)
    go_wp2_with fail
    go_returns
    exact ⟨A, c, by first | rfl | trivial, HA.out.drewN _, HLE.out, by trivial, below_drewN (Below.refl _ _) _⟩

theorem readsAll_one (w : World) (A : Option Addr) (c : Nat) (a : List UInt8) (n : Nat) (hn : a.length = n) (ha : Arg w A c a) (hl : n ≤ 1000000000) : ReadsAll (w.alloc (.cells #[.slice A n c] 32)) (some ⟨w.heap.size, 0, none⟩) [⟨A, c, a⟩] := by
  subst hn
  refine .inr ⟨_, _, rfl, by simp, fun k hk => ?_⟩
  obtain rfl : k = 0 := by simpa using hk
  refine ⟨?_, by simp; omega, ha.reads.alloc _⟩
  rw [World.cell?_alloc_mark]
  rfl
theorem flat_one (A : Option Addr) (c : Nat) (a : List UInt8) : flat [⟨A, c, a⟩] = a := by simp [flat]
theorem StGo.grow {S D S' D' : Nat → Prop} {w w1 w2 : World} (h : StGo S D S' D' w w1) (hb : Below w1.heap.size w1 w2) : StGo S D S' D' w w2 := by
  have hz := hb.size
  exact ⟨h.chg.then (Chg.of_below hb), fun k hk => by rcases h.s k hk with h | h; exact .inl h; exact .inr (by omega), fun k hk => by rcases h.d k hk with h | h; exact .inl h; exact .inr (by omega)⟩
def St.S.head (s : St.S) (k : St.Nm) : (List UInt8 × Option Nat) × St.S := s.ask [] (St.S.headF k)
theorem St.head_quiet (k : St.Nm) : St.Quiet (St.S.headF k) := fun t => by unfold St.S.headF; split <;> exact ⟨rfl, rfl⟩
set_option maxRecDepth 100000 in
set_option maxHeartbeats 1000000 in
theorem StS.head {w0 w : World} {S D : Nat → Prop} {sb n : Nat} {s : St.S} (h : StS w0 S D sb s n w) (p : Nat → Addr) (hs : Sents w0 p) (hn : n ≤ 1000000) (ht : Tabs w0) (k : List UInt8) (hk : k.length ≤ 100000) :
    Calls Tryz.prog 15 #[.pointer (some ⟨sb, 0, none⟩), encStr k] w fun e w' => e = .returned (.tuple #[.int .i64 ((s.head k).1.1.length : Int), .int .u32 (U (Crc.sum (s.head k).1.1)), errR p (s.head k).1.2]) ∧ StS w0 S D sb (s.head k).2 (n + 1) w' ∧ Chg S w w' := by
  obtain ⟨W, hW⟩ : ∃ W, W = ((w.alloc (.cells #[.pointer (some ⟨sb, 0, none⟩)] 24)).alloc (.cells #[encStr k] 9)) := ⟨_, rfl⟩
  have hb : Below w.heap.size w W := hW ▸ balloc (balloc (Below.refl _ _) _) _
  have q0 : W.cell? ⟨w.heap.size, 0, none⟩ = some (.pointer (some ⟨sb, 0, none⟩)) := by
    rw [hW, World.cell?_alloc_lt _ _ _ (by simp <;> omega), World.cell?_alloc_mark]; rfl
  have q1 : W.cell? ⟨w.heap.size + 1, 0, none⟩ = some (encStr k) := by
    have e : (w.alloc (.cells #[.pointer (some ⟨sb, 0, none⟩)] 24)).heap.size = w.heap.size + 1 := by simp
    rw [hW, ← e, World.cell?_alloc_mark]; rfl
  have hbW := h.below.trans (hb.mono h.below.size)
  have hsb : sb < w.heap.size := by obtain ⟨_, _, _, _, _, _, hl⟩ := h.st; exact hl.lt _ (.inl hl.msb)
  have hSg : ∀ j, j < 19 → ¬ S (gs.getD j 0) := fun j hj hS => by have := h.lo _ (.inl hS); have := hs.size j hj; omega
  have hsbg : ∀ j, j < 19 → gs.getD j 0 ≠ sb := fun j hj e => by obtain ⟨_, _, _, _, _, _, hl⟩ := h.st; exact hSg j hj (e ▸ hl.msb)
  have hmsb : S sb := by obtain ⟨_, _, _, _, _, _, hl⟩ := h.st; exact hl.msb
  have HB := hide (ansCallB (h.st.below hb) ⟨h.calls.1, by have := h.calls.2; omega⟩ ⟨h.failed.1, by have := h.failed.2; omega⟩ p (errCell hs hbW 10 (by omega)) (hSg 10 (by omega)) 83 #[.pointer (some ⟨w.heap.size, 0, none⟩), .pointer (some ⟨w.heap.size + 1, 0, none⟩)] (enters_of Tryz.func83 (by kernel_rfl) rfl) ([] : List UInt8) (St.S.headF k) (fun a v W => ∃ A c, v = .slice A a.length c ∧ Arg W A c a ∧ a.length ≤ 1000000000) (fun a v W W' ⟨A, c, h1, h2, h3⟩ hb => ⟨A, c, h1, h2.below hb (Nat.le_refl _), h3⟩) (fun W => ⟨none, 0, rfl, ⟨by simp, by omega, fun _ => rfl, .inl rfl⟩, by simp⟩) (fun t W' => IsStore W' sb t n S D ∧ Chg S W W') (fun w1 hc hi => ⟨hi, hc.mono fun k e => e ▸ hmsb⟩) (fun t W W' hh hb => ⟨hh.1.below hb, hh.2.then (Chg.of_below hb)⟩) (fun t W hh => hh.2)
    fun w1 hc1 h1 => by
      obtain ⟨ob, ub, sv, ov, pb, pv, h1⟩ := h1
      refine (stHead1_any h1 p (hc1.cell (errCell hs hbW 6 (by omega)) (hsbg 6 (by omega))) _ _ k (by omega) (hc1.cell q0 (by show ¬ (w.heap.size = sb); omega)) (hc1.cell q1 (by show ¬ (w.heap.size + 1 = sb); omega))).mono ?_
      rintro e w2 ⟨A, c, he, ha, hl, hst, hb2⟩
      refine ⟨A, _, c, he, ⟨A, c, rfl, ha, hl⟩, ?_⟩
      rw [hst]
      exact ⟨IsStore.below ⟨_, _, _, _, _, _, h1⟩ hb2, (hc1.mono fun k e => e ▸ hmsb).then (Chg.of_below hb2)⟩)
  have HP : Hid (∀ w', IsStore w' sb (s.ask ([] : List UInt8) (St.S.headF k)).2 n S D ∧ Chg S W w' → StS w0 S D sb (s.ask ([] : List UInt8) (St.S.headF k)).2 (n + 1) w' ∧ Chg S w w') := hide (fun w' hp => by
    have hq := St.ask_num (St.head_quiet k) s ([] : List UInt8)
    have := h.calls; have := h.failed
    have hch := (Chg.of_below hb).then hp.2
    exact ⟨h.read hp.1 hch ⟨by omega, by omega⟩ ⟨by omega, by omega⟩, hch⟩)
  have HW := hide hW
  have HT := hide (fun W (hW : Below w0.heap.size w0 W) => ht.below hW (Nat.le_refl _))
  clear h hs hW hb q0 q1 hbW hSg hsbg hsb ht hmsb
  go_enter Tryz.func15, Tryz.ntmps15
  go_wp2_with (first
    | (go_at_call 79; rw [← HW.out]; refine HB.out.mono ?_; rintro e w1 ⟨A', x, c', rfl, ⟨A, c, hv, ha, hlen⟩, hp⟩; injection hv with hv1 hv2 hv3; subst hv1 hv2 hv3; have H := hide (HP.out _ hp); have HA := hide ha; have HLEN := hide hlen; clear hp ha hlen; generalize hx : (s.ask [] (St.S.headF k)).1.1 = a at *; generalize hal : a.length = al at *; have HAL := hide hal; have HX := hide hx; clear hal hx)
    | (go_at_call 84; refine (of_at _ 1 1 [⟨A', c', a⟩] _ rfl (by omega) (readsAll_one w1 A' c' a al HAL.out HA.out (by have := HLEN.out; omega)) (HT.out _ (H.out.1.below.trans ((balloc (Below.refl _ _) _).mono H.out.1.below.size)))).mono ?_; rintro e w2 ⟨rfl, q, hq⟩; have HQ := hide hq; clear hq; rw [flat_one])
    | fail)
  go_returns
  refine ⟨by rw [show s.head k = s.ask [] (St.S.headF k) from rfl, HX.out, HAL.out]; rfl, ?_⟩
  have hb2 : Below w1.heap.size w1 w2 := by rw [HQ.out]; exact below_drewN (balloc (Below.refl _ _) _) _
  exact ⟨H.out.1.grow hb2, H.out.2.then (Chg.of_below hb2)⟩
end Go.Proofs.YtlflijhnlcdakaaGreatDoor

namespace Go.Proofs.YtlflijhnlcdakaaGreatDoor
open Go.RowKit Go.Maps

/-- Two boxes of the call's own, written beside a store. -/
structure Two (w0 w : World) (S D : Nat → Prop) (sb n vb vc : Nat) (s : St.S) (x y : Value) (w' : World) : Prop where
  box1 : w'.heap[vb]? = some (.cells #[x] 3 (0, 0))
  box2 : w'.heap[vc]? = some (.cells #[y] 46 (0, 0))
  st : StS w0 S D sb s n w'
  go : CaGo S D (fun k => k = vb ∨ k = vc) S D w w'
theorem two_of {w0 w w2 : World} {S D : Nat → Prop} {sb n vb vc : Nat} {s : St.S} {x0 y0 : Value} (h : StS w0 S D sb s n w2) (hg : Chg S w w2) (hv : w2.heap[vb]? = some (.cells #[x0] 3 (0, 0))) (hv2 : w2.heap[vc]? = some (.cells #[y0] 46 (0, 0))) (hS : ¬ S vb ∧ ¬ D vb ∧ w0.heap.size ≤ vb) (hS2 : ¬ S vc ∧ ¬ D vc ∧ w0.heap.size ≤ vc) (hne : vb ≠ vc) (x y : Value) :
    Two w0 w S D sb n vb vc s x y ((w2.setCell ⟨vb, 0, none⟩ x).setCell ⟨vc, 0, none⟩ y) ∧ Two w0 w S D sb n vb vc s x y ((w2.setCell ⟨vc, 0, none⟩ y).setCell ⟨vb, 0, none⟩ x) := by
  have g0 : CaGo S D (fun k => k = vb ∨ k = vc) S D w w2 := ⟨hg.mono fun _ h => .inl h, fun _ h => .inl h, fun _ h => .inl h⟩
  have gb : ∀ W v, CaGo S D (fun k => k = vb ∨ k = vc) S D W (W.setCell ⟨vb, 0, none⟩ v) := fun W v => ⟨Chg.setCell (S := fun k => S k ∨ (k = vb ∨ k = vc)) W vb 0 v (.inr (.inl rfl)), fun _ h => .inl h, fun _ h => .inl h⟩
  have gc : ∀ W v, CaGo S D (fun k => k = vb ∨ k = vc) S D W (W.setCell ⟨vc, 0, none⟩ v) := fun W v => ⟨Chg.setCell (S := fun k => S k ∨ (k = vb ∨ k = vc)) W vc 0 v (.inr (.inr rfl)), fun _ h => .inl h, fun _ h => .inl h⟩
  refine ⟨⟨?_, ?_, (h.setC vb 0 x hS.1 hS.2.1 hS.2.2).setC vc 0 y hS2.1 hS2.2.1 hS2.2.2, (g0.trans (gb _ _)).trans (gc _ _)⟩, ⟨?_, ?_, (h.setC vc 0 y hS2.1 hS2.2.1 hS2.2.2).setC vb 0 x hS.1 hS.2.1 hS.2.2, (g0.trans (gc _ _)).trans (gb _ _)⟩⟩
  · rw [Below.heap_setCell _ _ _ _ (fun e => hne (by first | exact e | exact e.symm)), heap_set hv 0 x]; rfl
  · rw [heap_set ((Below.heap_setCell _ _ _ _ (fun e => hne (by first | exact e | exact e.symm))).trans hv2) 0 y]; rfl
  · rw [heap_set ((Below.heap_setCell _ _ _ _ (fun e => hne (by first | exact e | exact e.symm))).trans hv) 0 x]; rfl
  · rw [Below.heap_setCell _ _ _ _ (fun e => hne (by first | exact e | exact e.symm)), heap_set hv2 0 y]; rfl

set_option maxRecDepth 100000 in
set_option maxHeartbeats 4000000 in
/-- The closure of Head. -/
theorem caHead1_any {w0 w : World} {S D : Nat → Prop} {sb cb n : Nat} {s : St.S} (h : StS w0 S D sb s n w) (c0 : w.cell? ⟨cb, 0, none⟩ = some (.pointer (some ⟨sb, 0, none⟩))) (p : Nat → Addr) (hs : Sents w0 p) (hn : n ≤ 1000000) (htb : Tabs w0) (xc xn vb vc : Nat) (k : List UInt8) (hk : k.length ≤ 100000)
    (c1 : w.cell? ⟨xc, 0, none⟩ = some (.pointer (some ⟨cb, 0, none⟩))) (c2 : w.cell? ⟨xn, 0, none⟩ = some (encStr k)) (z z2 : Int) (hv : w.heap[vb]? = some (.cells #[.int .i64 z] 3 (0, 0))) (hv2 : w.heap[vc]? = some (.cells #[.int .u32 z2] 46 (0, 0))) (hS : ¬ S vb ∧ ¬ D vb ∧ w0.heap.size ≤ vb) (hS2 : ¬ S vc ∧ ¬ D vc ∧ w0.heap.size ≤ vc) (hne : vb ≠ vc) :
    Calls Tryz.prog 108 #[.pointer (some ⟨xc, 0, none⟩), .pointer (some ⟨xn, 0, none⟩), .pointer (some ⟨vb, 0, none⟩), .pointer (some ⟨vc, 0, none⟩)] w fun e w' => e = .returned (errR p (s.head k).1.2) ∧ Two w0 w S D sb (n + 1) vb vc (s.head k).2 (.int .i64 ((s.head k).1.1.length : Int)) (.int .u32 (U (Crc.sum (s.head k).1.1))) w' := by
  have HP := hide (fun (W : World) (hW : Below w.heap.size w W) => StS.head (h.grow hW) p hs hn htb k hk)
  have HC := hide (fun (W : World) (hW : Below w.heap.size w W) (w2 : World) (hg : Chg S W w2) => (And.intro ((hg.block vb (Nat.lt_of_lt_of_le (Array.getElem?_eq_some_iff.1 hv).1 hW.size) hS.1).trans ((hW.block vb (Array.getElem?_eq_some_iff.1 hv).1).trans hv)) ((hg.block vc (Nat.lt_of_lt_of_le (Array.getElem?_eq_some_iff.1 hv2).1 hW.size) hS2.1).trans ((hW.block vc (Array.getElem?_eq_some_iff.1 hv2).1).trans hv2)) : w2.heap[vb]? = some (.cells #[.int .i64 z] 3 (0, 0)) ∧ w2.heap[vc]? = some (.cells #[.int .u32 z2] 46 (0, 0))))
  have HV := hide (fun (W : World) (hW : Below w.heap.size w W) (w2 : World) (h2 : StS w0 S D sb (s.head k).2 (n + 1) w2) (hg : Chg S W w2) => two_of (w := w) h2 ((Chg.of_below hW).then hg) (HC.out W hW w2 hg).1 (HC.out W hW w2 hg).2 hS hS2 hne (.int .i64 ((s.head k).1.1.length : Int)) (.int .u32 (U (Crc.sum (s.head k).1.1))))
  clear h hs hn hk hv hv2 hS hS2 htb
  go_enter Tryz.func108, Tryz.ntmps108
  go_wp2_with fail
  go_region_with (go_at_call 15; refine (HP.out _ (below_drewN (Below.refl _ _) _)).mono ?_; rintro e w2 ⟨rfl, h2, hg⟩; have H2 := hide h2; have HG := hide hg; have hx := HC.out _ (below_drewN (Below.refl _ _) _) w2 hg; have cv := box_cell hx.1 0; have fv := box_free hx.1 0; have cv2 := box_cell hx.2 0; have fv2 := box_free hx.2 0; have cv3 : ∀ v, (w2.setCell ⟨vb, 0, none⟩ v).cell? ⟨vc, 0, none⟩ = some (.int .u32 z2) := fun v => (World.cell?_setCell_other _ _ _ _ (by intro e; injection e with e _ _; first | exact hne e | exact hne e.symm)).trans cv2; have cv4 : ∀ v, (w2.setCell ⟨vc, 0, none⟩ v).cell? ⟨vb, 0, none⟩ = some (.int .i64 z) := fun v => (World.cell?_setCell_other _ _ _ _ (by intro e; injection e with e _ _; first | exact hne e | exact hne e.symm)).trans cv; clear h2 hg hx)
  all_goals
    go_wp2_with fail
    refine bodyPost_ret (by simp [results, Tryz.results108, go_sem]; try rfl) rfl ?_
    have hq := HV.out _ (below_drewN (Below.refl _ _) _) w2 H2.out HG.out
    first | exact ⟨rfl, hq.1⟩ | exact ⟨rfl, hq.2⟩

/-- What a client's Head makes of a store. -/
abbrev St.chead (t : Nat) (k : St.Nm) (s : St.S) : St.Ag (St.S × List UInt8) := St.again (St.askOf fun s => s.ask [] (St.S.headF k)) t (s, [])
theorem St.head_in {E : Nat → Prop} (h6 : E 6) (k : St.Nm) (t : St.S) (j : Nat) (h : (St.S.headF k t).1.2 = some j) : E j := by
  unfold St.S.headF at h; split at h <;> simp at h; exact h ▸ h6
theorem sum_nil : U (Crc.sum []) = 0 := by decide
set_option maxRecDepth 100000 in
set_option maxHeartbeats 1000000 in
theorem CaS.head {w0 w : World} {S D : Nat → Prop} {sb cb t n : Nat} {a : Int} {s : St.S} (h : CaS w0 S D sb cb t a s n w) (p : Nat → Addr) (hs : Sents w0 p) (htb : Tabs w0) (ht : 1 ≤ t ∧ t ≤ 8) (hn : n ≤ 900000) (k : List UInt8) (hk : k.length ≤ 100000) :
    Calls Tryz.prog 43 #[.pointer (some ⟨cb, 0, none⟩), encStr k] w fun e w' => e = .returned (.tuple #[.int .i64 ((St.chead t k s).st.2.length : Int), .int .u32 (U (Crc.sum (St.chead t k s).st.2)), errR p (St.chead t k s).r]) ∧ ∃ S' D', CaS w0 S' D' sb cb t (a + (St.chead t k s).k) (St.chead t k s).st.1 (n + t) w' ∧ CaGo S D (fun k => k = cb) S' D' w w' := by
  obtain ⟨W, hW⟩ : ∃ W, W = (((w.alloc (.cells #[.pointer (some ⟨cb, 0, none⟩)] 79)).alloc (.cells #[encStr k] 9)).alloc (.cells #[.int .i64 0] 3)).alloc (.cells #[.int .u32 0] 46) := ⟨_, rfl⟩
  have hb : Below w.heap.size w W := hW ▸ balloc (balloc (balloc (balloc (Below.refl _ _) _) _) _) _
  have q0 : W.cell? ⟨w.heap.size, 0, none⟩ = some (.pointer (some ⟨cb, 0, none⟩)) := by
    rw [hW, World.cell?_alloc_lt _ _ _ (by simp <;> omega), World.cell?_alloc_lt _ _ _ (by simp <;> omega), World.cell?_alloc_lt _ _ _ (by simp <;> omega), World.cell?_alloc_mark]; rfl
  have q1 : W.cell? ⟨w.heap.size + 1, 0, none⟩ = some (encStr k) := by
    have e : (w.alloc (.cells #[.pointer (some ⟨cb, 0, none⟩)] 79)).heap.size = w.heap.size + 1 := by simp
    rw [hW, ← e, World.cell?_alloc_lt _ _ _ (by simp <;> omega), World.cell?_alloc_lt _ _ _ (by simp <;> omega), World.cell?_alloc_mark]; rfl
  have q2 : W.heap[w.heap.size + 2]? = some (.cells #[.int .i64 0] 3 (0, 0)) := by
    have e : ((w.alloc (.cells #[.pointer (some ⟨cb, 0, none⟩)] 79)).alloc (.cells #[encStr k] 9)).heap.size = w.heap.size + 2 := by simp
    rw [hW, ← e, Below.heap_alloc _ _ _ (by simp), heap_alloc_new]
  have q3 : W.heap[w.heap.size + 3]? = some (.cells #[.int .u32 0] 46 (0, 0)) := by
    have e : (((w.alloc (.cells #[.pointer (some ⟨cb, 0, none⟩)] 79)).alloc (.cells #[encStr k] 9)).alloc (.cells #[.int .i64 0] 3)).heap.size = w.heap.size + 3 := by simp
    rw [hW, ← e, heap_alloc_new]
  have hcl : cb < w.heap.size := (Array.getElem?_eq_some_iff.1 h.box).1
  have hvl : w.heap.size + 3 < W.heap.size := (Array.getElem?_eq_some_iff.1 q3).1
  have hnS : ∀ x, w.heap.size ≤ x → ¬ S x := fun x hx hS => by have := h.st.lt _ (.inl hS); omega
  have hnD : ∀ x, w.heap.size ≤ x → ¬ D x := fun x hx hS => by have := h.st.lt _ (.inr hS); omega
  have hw0 : w0.heap.size ≤ w.heap.size := h.st.below.size
  have HA := hide (caAgain (E := fun j => j < 19) (by omega) (h.grow hb) hs ht (by omega) 108 #[.pointer (some ⟨w.heap.size, 0, none⟩), .pointer (some ⟨w.heap.size + 1, 0, none⟩), .pointer (some ⟨w.heap.size + 2, 0, none⟩), .pointer (some ⟨w.heap.size + 3, 0, none⟩)] (enters_of Tryz.func108 (by kernel_rfl) rfl)
    (fun s => s.ask [] (St.S.headF k)) (St.err_in (E := fun j => j < 19) (by omega) [] _ (St.head_in (E := fun j => j < 19) (by omega) k)) (fun x => x = w.heap.size + 2 ∨ x = w.heap.size + 3) (fun b W => W.heap[w.heap.size + 2]? = some (.cells #[.int .i64 (b.length : Int)] 3 (0, 0)) ∧ W.heap[w.heap.size + 3]? = some (.cells #[.int .u32 (U (Crc.sum b))] 46 (0, 0))) (fun _ => True) (fun _ _ => trivial)
    (fun x W1 v hx => ⟨(Below.heap_setCell _ _ _ _ (fun e => by have e2 : w.heap.size + 2 = cb := e; omega)).trans hx.1, (Below.heap_setCell _ _ _ _ (fun e => by have e2 : w.heap.size + 3 = cb := e; omega)).trans hx.2⟩)
    (fun S1 D1 s1 a1 n1 x W1 h1 _ h3 h4 hgo hx => by
      have hS1 : ∀ y, w.heap.size ≤ y → y < W.heap.size → ¬ S1 y := fun y hy1 hy2 hy => by
        rcases hgo.s _ hy with hy | hy
        · exact hnS _ (by omega) hy
        · omega
      have hD1 : ∀ y, w.heap.size ≤ y → y < W.heap.size → ¬ D1 y := fun y hy1 hy2 hy => by
        rcases hgo.d _ hy with hy | hy
        · exact hnD _ (by omega) hy
        · omega
      exact (caHead1_any h3 (box_cell h4 0) p hs (by omega) htb _ _ _ _ k hk (hgo.cell q0 (hnS _ (Nat.le_refl _)) (by omega)) (hgo.cell q1 (hnS _ (by omega)) (by omega)) _ _ hx.1 hx.2 ⟨hS1 _ (by omega) (by omega), hD1 _ (by omega) (by omega), by omega⟩ ⟨hS1 _ (by omega) (by omega), hD1 _ (by omega) (by omega), by omega⟩ (by omega)).mono fun e w' ⟨he, htw⟩ => ⟨he, ⟨htw.box1, htw.box2⟩, S1, D1, htw.st, htw.go⟩) (by omega) [] ⟨q2, by rw [sum_nil]; exact q3⟩ trivial)
  have HW := hide hW
  have HB := hide hb
  clear h hs ht hn hk hW hb q0 q1 q2 q3 hcl hvl hnS hnD hw0 htb
  go_enter Tryz.func43, Tryz.ntmps43
  go_wp2_with (first
    | (go_at_call 104; rw [← HW.out]; refine HA.out.mono ?_; rintro e w2 ⟨rfl, hbx, -, S', D', h1, h2⟩; have H1 := hide h1; have H2 := hide h2; have cv := box_cell hbx.1 0; simp only [List.getElem?_toArray, List.getElem?_cons_zero] at cv; have cv2 := box_cell hbx.2 0; simp only [List.getElem?_toArray, List.getElem?_cons_zero] at cv2; clear h1 h2 hbx)
    | fail)
  go_quiet (fail)
  go_wp2_with fail
  go_returns
  exact ⟨by first | rfl | trivial, S', D', H1.out.grow (below_drewN (Below.refl _ _) _), (H2.out.ahead HB.out fun k hk => hk.elim .inl fun e => .inr (by omega)).trans ⟨Chg.of_below (below_drewN (Below.refl _ _) _), fun _ h => .inl h, fun _ h => .inl h⟩⟩
end Go.Proofs.YtlflijhnlcdakaaGreatDoor

namespace Go.Proofs.YtlflijhnlcdakaaGreatDoor.Nm

theorem lt_apart (a b : Tx) (k : Nat) (ha : k < a.length) (hb : k < b.length) (h : a.take k = b.take k) (hne : a.getD k 0 ≠ b.getD k 0) : a < b ↔ a.getD k 0 < b.getD k 0 := by
  induction k generalizing a b with
  | zero =>
    match a, b, ha, hb with
    | x :: a, y :: b, _, _ =>
      simp only [List.getD_cons_zero] at hne ⊢
      rw [List.cons_lt_cons_iff]
      constructor
      · rintro (e | ⟨e, _⟩)
        · exact e
        · exact absurd e hne
      · exact fun e => .inl e
  | succ k ih =>
    match a, b, ha, hb with
    | x :: a, y :: b, ha, hb =>
      simp only [List.take_succ_cons, List.cons.injEq] at h
      obtain ⟨rfl, h⟩ := h
      simp only [List.getD_cons_succ] at hne ⊢
      rw [← ih a b (by simpa using ha) (by simpa using hb) h hne, List.cons_lt_cons_iff]
      constructor
      · rintro (e | ⟨_, e⟩)
        · exact absurd e (by simp)
        · exact e
      · exact fun e => .inr ⟨rfl, e⟩
theorem lt_ended (a b : Tx) (k : Nat) (ha : k ≤ a.length) (hb : k ≤ b.length) (hk : k = a.length ∨ k = b.length) (h : a.take k = b.take k) : a < b ↔ a.length < b.length := by
  induction k generalizing a b with
  | zero =>
    match a, b, hk with
    | [], [], _ => simp
    | [], y :: b, _ => simp
    | x :: a, [], _ => simp
    | x :: a, y :: b, hk => simp at hk
  | succ k ih =>
    match a, b, ha, hb with
    | x :: a, y :: b, ha, hb =>
      simp only [List.take_succ_cons, List.cons.injEq] at h
      obtain ⟨rfl, h⟩ := h
      rw [List.cons_lt_cons_iff, List.length_cons, List.length_cons, Nat.add_lt_add_iff_right, ← ih a b (by simpa using ha) (by simpa using hb) (by simpa using hk) h]
      constructor
      · rintro (e | ⟨_, e⟩)
        · exact absurd e (by simp)
        · exact e
      · exact fun e => .inr ⟨rfl, e⟩
/-- Where a text is put in place. -/
theorem ins_at (x : Tx) : ∀ (k : Nat) (l : List Tx), k ≤ l.length → (∀ j, j < k → l.getD j [] < x) → (k < l.length → ¬ l.getD k [] < x ∧ l.getD k [] ≠ x) → ins x l = l.take k ++ [x] ++ l.drop k
  | 0, [], _, _, _ => rfl
  | 0, y :: l, _, _, h => by
    obtain ⟨h1, h2⟩ := h (by simp)
    simp only [List.getD_cons_zero] at h1 h2
    unfold ins
    rw [if_neg h1, if_neg h2]
    rfl
  | k + 1, [], hk, _, _ => by simp at hk
  | k + 1, y :: l, hk, hl, h => by
    have h0 := hl 0 (by omega)
    simp only [List.getD_cons_zero] at h0
    unfold ins
    rw [if_pos h0, ins_at x k l (by simpa using hk) (fun j hj => by simpa using hl (j + 1) (by omega)) (fun hk => by simpa using h (by simpa using hk))]
    rfl
theorem ins_there (x : Tx) : ∀ (k : Nat) (l : List Tx), k < l.length → (∀ j, j < k → l.getD j [] < x) → l.getD k [] = x → ins x l = l
  | _, [], hk, _, _ => by simp at hk
  | 0, y :: l, _, _, h => by
    simp only [List.getD_cons_zero] at h
    subst h
    unfold ins
    rw [if_neg (List.lt_irrefl _), if_pos rfl]
  | k + 1, y :: l, hk, hl, h => by
    have h0 := hl 0 (by omega)
    simp only [List.getD_cons_zero] at h0
    unfold ins
    rw [if_pos h0, ins_there x k l (by simpa using hk) (fun j hj => by simpa using hl (j + 1) (by omega)) (by simpa using h)]
theorem ins_len (x : Tx) : ∀ l, (ins x l).length ≤ l.length + 1
  | [] => by simp [ins]
  | y :: l => by
    unfold ins
    have := ins_len x l
    split
    · simp; omega
    · split <;> simp
theorem rising_snoc (l : List Tx) (x : Tx) : rising (l ++ [x]) = ins x (rising l) := by simp [rising]
theorem rising_len (l : List Tx) : (rising l).length ≤ l.length := by
  have key : ∀ (l o : List Tx), (l.foldl (fun o x => ins x o) o).length ≤ o.length + l.length := by
    intro l
    induction l with
    | nil => intro o; simp
    | cons x l ih =>
      intro o
      have h1 := ih (ins x o)
      have h2 := ins_len x o
      simp only [List.foldl_cons, List.length_cons]
      omega
  have := key l []
  simpa [rising] using this
end Go.Proofs.YtlflijhnlcdakaaGreatDoor.Nm
namespace Go.Proofs.YtlflijhnlcdakaaGreatDoor
open Go.RowKit Go.Sort Go.ChangeShapes Go.WideShapes Go.ChangeAt Go.ChangeMaps
theorem text_cells : Tryz.prog.cellsOf 9 = 1 := by kernel_rfl
theorem enc_data (s : ByteArray) : Value.string s = encStr s.data.toList := by cases s; simp [encStr]
theorem txrow_of {H : Type} {enc : TypeId × Value → H} {W : World} {base : Nat} {held : Bool} {a : Option Addr} {len cap : Nat} {d : DataW H} {p : List MemPlace}
    (h : DataW.Trod enc Tryz.prog W base (fun _ => true) held 35 (.slice a len cap) d p) : ∃ xs : List (List UInt8), xs.length = len ∧ (len ≤ cap ∧ cap ≤ 9223372036854775807 ∧ (a = none → cap = 0) ∧ ReadsT W a xs) := by
  obtain ⟨fuel, hf⟩ := h
  rcases open_strings Tryz.underlying35 Tryz.underlying9 text_cells hf with ⟨hcs, _⟩ | ⟨x, l, c, ss, hcs, _, hl, hm, hlen, _, hcell, _⟩
  · simp [Value.cells] at hcs
    obtain ⟨rfl, rfl, rfl⟩ := hcs
    exact ⟨[], rfl, Nat.le_refl _, by omega, fun _ => rfl, .inl rfl⟩
  · simp [Value.cells] at hcs
    obtain ⟨rfl, rfl, rfl⟩ := hcs
    simp only [if_true] at hlen
    refine ⟨(ss.take len).map fun s => s.data.toList, by simp; omega, hl, by simpa [maxLen] using hm, fun e => (by cases e), ?_⟩
    by_cases h0 : len = 0
    · subst h0; exact .inl (by simp)
    · obtain ⟨b, off, spot⟩ := x
      have hc := hcell 0 (by omega)
      have hspot : spot = none := by simpa [Addr.add] using World.cell?_spot hc
      subst hspot
      refine .inr ⟨b, off, rfl, ?_, fun k hk => ?_⟩
      · rcases Nat.lt_or_ge b W.heap.size with h | h
        · exact h
        · exfalso
          simp [World.cell?, Addr.add, Array.getElem?_eq_none h] at hc
      · have hk' : k < len := by simp at hk; omega
        have hck := hcell k (by omega)
        rw [Addr.add_lit] at hck
        rw [hck, enc_data]
        congr 2
        simp [List.getD, hk', show k < ss.length by omega]
structure TxRow (w : World) (A : Option Addr) (c : Nat) (xs : List (List UInt8)) : Prop where
  le : xs.length ≤ c
  max : c ≤ 9223372036854775807
  nil : A = none → c = 0
  get : ∀ j, j < xs.length → ∃ b off, A = some ⟨b, off, none⟩ ∧ w.cell? ⟨b, off + j, none⟩ = some (encStr (xs.getD j []))
theorem TxRow.below {w w' : World} {A : Option Addr} {c : Nat} {xs : List (List UInt8)} (h : TxRow w A c xs) (hb : Below w.heap.size w w') : TxRow w' A c xs :=
  ⟨h.le, h.max, h.nil, fun j hj => by
    obtain ⟨b, off, e, hc⟩ := h.get j hj
    exact ⟨b, off, e, (hb.cell (p := ⟨b, off + j, none⟩) (World.block_lt_of_cell? w _ hc)).trans hc⟩⟩
theorem take_succ_get (xs : List (List UInt8)) (k : Nat) (h : k < xs.length) : xs.take (k + 1) = xs.take k ++ [xs.getD k []] := by
  rw [List.take_succ_eq_append_getElem h]
  simp [List.getD, h]
theorem take_snocT (xs : List (List UInt8)) (k : Nat) (h : k < xs.length) : xs.take (k + 1) = xs.take k ++ [xs.getD k []] := by
  rw [List.take_succ_eq_append_getElem h]
  simp [List.getD, h]

theorem take_snoc8 (s : List UInt8) (k : Nat) (h : k < s.length) : s.take (k + 1) = s.take k ++ [s.getD k 0] := by
  rw [List.take_succ_eq_append_getElem h]
  simp [List.getD, h]
theorem str_index (l : List UInt8) (i : Nat) (h : i < l.length) (W : World) : (Instr.index 9 (encStr l) (.int .i64 (i : Int))).run Tryz.prog W = .ok (.int .u8 (B (l.getD i 0))) W := by
  have hg : (⟨l.toArray⟩ : ByteArray)[i]? = some l[i] := by
    rw [getElem?_pos (⟨l.toArray⟩ : ByteArray) i (by simpa [ByteArray.size] using h)]
    rfl
  simp [Instr.index, run_underlying Tryz.underlying9, asIntOf, hg, B, List.getD, h]
instance (c : UInt8) : Decidable (Nm.digit c) := inferInstanceAs (Decidable (_ ∧ _))
def numB (s : List UInt8) : Int × Bool := if ∀ c ∈ s, Nm.digit c then ((Nm.val 0 s : Int), true) else (0, false)
set_option maxRecDepth 100000 in
theorem before_any (a b : List UInt8) (w : World) (ha : a.length ≤ 1000000) (hb : b.length ≤ 1000000) :
    Calls Tryz.prog 125 #[encStr a, encStr b] w fun e w' => e = .returned (.bool (decide (a < b))) ∧ ∃ q, w' = w.drewN q := by
  obtain ⟨r, hr⟩ : ∃ r, r = decide (a < b) := ⟨_, rfl⟩
  rw [← hr]
  have HR := Lib.hid hr
  clear hr
  obtain ⟨L, hL⟩ : ∃ L, L = a.length := ⟨_, rfl⟩
  obtain ⟨M, hM⟩ : ∃ M, M = b.length := ⟨_, rfl⟩
  have hsa : (⟨a.toArray⟩ : ByteArray).size = L := by rw [hL]; show a.toArray.size = _; simp
  have hsb : (⟨b.toArray⟩ : ByteArray).size = M := by rw [hM]; show b.toArray.size = _; simp
  have HL := Lib.hid hL
  have HM := Lib.hid hM
  have hl : L ≤ 1000000 := by omega
  have hm : M ≤ 1000000 := by omega
  clear hL hM ha hb
  go_enter Tryz.func125, Tryz.ntmps125
  go_wp2_with fail
  go_loopw [5] (fun i wr => ∃ k : Nat, k ≤ L ∧ k ≤ M ∧ i = .int .i64 k ∧ a.take k = b.take k ∧ ∃ q, wr = w.drewN q) (fun i _ => L - (intOf i).toNat)
  case atStart => exact ⟨0, Nat.zero_le _, Nat.zero_le _, rfl, by simp, 0, rfl⟩
  case round =>
    obtain ⟨k, hk, hk2, rfl, htk, q, rfl⟩ := hrel
    have HTK := Lib.hid htk
    clear htk
    by_cases h1 : k < L
    · by_cases h2 : k < M
      · have h1' : k < a.length := by rw [← HL.out]; exact h1
        have h2' : k < b.length := by rw [← HM.out]; exact h2
        have hca := fun W => str_index a k h1' W
        have hcb := fun W => str_index b k h2' W
        have HA := Lib.hid (take_snoc8 a k h1')
        have HB := Lib.hid (take_snoc8 b k h2')
        have HAP := Lib.hid (Nm.lt_apart a b k h1' h2' HTK.out)
        generalize a.getD k 0 = x at *
        generalize b.getD k 0 = y at *
        clear h1' h2'
        by_cases hxy : x = y
        · subst hxy
          go_wp2_with fail
          go_quiet (fail)
          go_wp2_with fail
          go_roundw
          case rel => exact ⟨k + 1, by omega, by omega, by go_num, by rw [HA.out, HB.out, HTK.out], _, rfl⟩
          case measure => simp [intOf]; omega
        · have hne : (B x == B y) = false := by
            rw [beq_eq_false_iff_ne]; intro e; exact hxy (B_inj e)
          have HD : Hid (decide (B x < B y) = r) := Lib.hid (by
            rw [HR.out]
            have := HAP.out hxy
            by_cases hlt : x < y
            · rw [decide_eq_true (this.2 hlt), decide_eq_true_eq]
              have := UInt8.lt_iff_toNat_lt.1 hlt
              unfold B; omega
            · rw [decide_eq_false (fun h => hlt (this.1 h)), decide_eq_false_iff_not]
              intro h
              apply hlt
              rw [UInt8.lt_iff_toNat_lt]
              unfold B at h; omega)
          clear hxy
          generalize B x = bx at *
          generalize B y = by' at *
          go_wp2_with fail
          go_quiet (fail)
          go_wp2_with fail
          go_quiet (fail)
          go_wp2_with fail
          go_ret
          exact ⟨by rw [HD.out]; rfl, _, by first | rfl | (simp only [World.drewN_drewN]; rfl) | exact World.drewN_drewN _ _ _⟩
      · have HD : Hid (decide (L < M) = r) := Lib.hid (by
          rw [HR.out]
          have := Nm.lt_ended a b k (by rw [← HL.out]; exact hk) (by rw [← HM.out]; exact hk2) (.inr (by rw [← HM.out]; omega)) HTK.out
          rw [← HL.out, ← HM.out] at this
          simp only [this])
        go_wp2_with fail
        go_ret
        exact ⟨by rw [HD.out]; rfl, q, rfl⟩
    · have HD : Hid (decide (L < M) = r) := Lib.hid (by
        rw [HR.out]
        have := Nm.lt_ended a b k (by rw [← HL.out]; exact hk) (by rw [← HM.out]; exact hk2) (.inl (by rw [← HL.out]; omega)) HTK.out
        rw [← HL.out, ← HM.out] at this
        simp only [this])
      go_wp2_with fail
      go_ret
      exact ⟨by rw [HD.out]; rfl, q, rfl⟩

open Go.RowKit Go.Sort

theorem text_elem : Tryz.prog.underlying 35 = some (.slice (Tryz.prog.elem 35)) := by kernel_rfl
theorem text_sizeOf (W : World) : (sizeOf (Tryz.prog.elem 35)).run Tryz.prog W = .ok 1 W := by
  have h : Tryz.prog.elem 35 = 9 := by kernel_rfl
  obtain ⟨i, hi, hz, hs1, hby⟩ := info_parts text_info
  rw [h]; simp [sizeOf, typeInfo, hi, hs1]
theorem run_cutT_l (W : World) (A : Option Addr) (n cap q : Nat) (h : q ≤ n) :
    (Instr.sliceAt 35 (.slice A n cap) (some (.int .i64 (q : Int))) none none).run Tryz.prog W = .ok (.slice (cutA A cap q) (n - q) (cap - q)) W := by
  rw [run_sliceAt_slice W _ _ _ _ _ text_elem, run_slice_l W _ A n cap text_elem .i64 (q : Int) (by omega) (by omega), text_sizeOf]
  simp [Result.andThen, sliced, cutA]
theorem run_cutT_h (W : World) (A : Option Addr) (n cap q : Nat) (h : q ≤ cap) :
    (Instr.sliceAt 35 (.slice A n cap) none (some (.int .i64 (q : Int))) none).run Tryz.prog W = .ok (.slice A q cap) W := by
  rw [run_sliceAt_slice W _ _ _ _ _ text_elem, run_slice_h W _ A n cap text_elem .i64 (q : Int) (by omega) (by omega), text_sizeOf]
  simp [Result.andThen, sliced]
  intro h0
  cases A <;> simp [Addr.add]
theorem ReadsT.cut {w : World} {A : Option Addr} {l : List (List UInt8)} (h : ReadsT w A l) (cap q : Nat) (hl : l.length ≤ cap) (hA : A = none → cap = 0) (hq : q ≤ l.length) : ReadsT w (cutA A cap q) (l.drop q) := by
  unfold cutA
  split
  · exact .inl (List.drop_eq_nil_of_le (by omega))
  · rcases A with _ | ⟨b, off, sp⟩
    · have := hA rfl; omega
    · rcases h with rfl | ⟨b', off', e, hb, hc⟩
      · exact .inl (by simp)
      · obtain ⟨rfl, rfl, rfl⟩ := by simpa using e
        have h2 := ReadsT.drop (w := w) (b := b) (off := off) (k := q) (l := l) (.inr ⟨_, _, rfl, hb, hc⟩)
        simpa [Addr.add_lit] using h2

section
variable {w : World} {o : Oper} {a : Act} {Q : Exit → Act → World → Prop}
/-- append(s, x...), s the call's own texts, x whatever reads as texts. -/
theorem step_appT {K : Act → World → Prop} (s x : Operand) (ho : o.op = .call { callee := .builtin .append, args := #[s, x], argTypes := #[35, 35] })
    (base : Nat) (v : Value) (l m : List (List UInt8)) (hs : a.eval s = v) (hown : OwnT w base v l) (A : Option Addr) (n c : Nat) (hx : a.eval x = .slice A n c) (hn : m.length = n) (hr : ReadsT w A m)
    (hlen : l.length + n ≤ 1073741824) (hbase : base ≤ w.heap.size)
    (h : ∀ v' w', OwnT w' base v' (l ++ m) → w.grownBy w' v.ownBlock → (v'.ownBlock = v.ownBlock ∨ v'.ownBlock = some w.heap.size) → K (a.put o.dst v') w') : o.wp Tryz.prog a w K Q := by
  subst hn
  obtain ⟨i, hi, hz, hs1, hby⟩ := info_parts text_info
  have key : ∃ v' w', (Builtin.append_ #[35, 35] o.type #[v, .slice A m.length c]).run Tryz.prog w = .ok v' w' ∧ OwnT w' base v' (l ++ m) ∧ w.grownBy w' v.ownBlock ∧ (v'.ownBlock = v.ownBlock ∨ v'.ownBlock = some w.heap.size) := by
    cases A with
    | none =>
      have h0 : m = [] := by
        rcases hr with h | ⟨_, _, h, _⟩
        · exact h
        · cases h
      subst h0
      refine ⟨v, w, ?_, by simpa using hown, World.grownBy.refl w _, .inl rfl⟩
      have u := Tryz.underlying35
      rcases hown.2 with ⟨rfl, _⟩ | ⟨g, cap, cur, rfl, _, _, hnc, _⟩
      · simp [Builtin.append_, run_underlying u, sizeOf, typeInfo, hi, Builtin.lenOf, Builtin.firstCells]
      · simp [Builtin.append_, run_underlying u, sizeOf, typeInfo, hi, Builtin.lenOf, Builtin.firstCells, hnc, storeCells]
    | some ad =>
      obtain ⟨v', w', hrun, h2, h3, _, h5⟩ := run_append_own_at (P := Tryz.prog) w base 35 o.type 9 i _ 1 16 Tryz.underlying35 hi hz hs1 hby rfl (by omega) v l.length (txs l) hown ad m.length c (txs m) (by rw [txs_len]; omega) hr.news (txs_one m)
        (by simp only [maxLen]; omega) (by omega) hbase
      refine ⟨v', w', hrun, ?_, h3, h5⟩
      unfold OwnT
      rw [List.length_append, show txs (l ++ m) = txs l ++ txs m from by simp [txs]]
      exact h2
  obtain ⟨v', w', hrun, h2, h3, h4⟩ := key
  unfold Oper.wp execOp
  simp only [ho, resolve, invoke, builtin, Sem.run_bind, Sem.run_pure, Result.andThen_ok, List.map_toArray, List.map_cons, List.map_nil, hs, hx, hrun]
  exact h v' w' h2 h3 h4
end
/-- make([]string, 0, c), in whatever world. -/
theorem run_makeT (c : Nat) (hc : c ≤ 1073741824) : ∃ cs : Array Value, (∀ W : World, (Instr.makeSlice 35 (.int .i64 0) (.int .i64 (c : Int))).run Tryz.prog W = .ok (.slice (some ⟨W.heap.size, 0, none⟩) 0 c) (W.alloc (.cells cs 9))) ∧
    ∀ W : World, OwnT (W.alloc (.cells cs 9)) W.heap.size (.slice (some ⟨W.heap.size, 0, none⟩) 0 c) [] := by
  obtain ⟨i, hi, hz, hs1, hby⟩ := info_parts text_info
  refine ⟨madeCells (Value.string ⟨#[]⟩).cells (c * i.size), fun W => by
    rw [run_make (P := Tryz.prog) W 35 9 i _ Tryz.underlying35 hi hz .i64 .i64 0 c (by omega) (by omega) (by rw [hby]; omega) (by omega)]
    simp only [Int.toNat_zero, Int.toNat_natCast], fun W => ?_⟩
  exact ⟨by simp [txs], .inr ⟨W.heap.size, c, _, by simp, Nat.le_refl _, heap_alloc_new _ _, by simp, by simp only [maxLen]; omega, by simp [size_madeCells, hs1], by simp [txs]⟩⟩

set_option maxRecDepth 100000 in
set_option maxHeartbeats 2000000 in
theorem rising_any (A : Option Addr) (c n : Nat) (l : List (List UInt8)) (w : World) (hn : l.length = n) (hl : n ≤ 100000) (hx : ∀ x ∈ l, x.length ≤ 1000000) (hr : ReadsT w A l) :
    Calls Tryz.prog 130 #[.slice A n c] w fun e w' => ∃ v, e = .returned v ∧ OwnT w' w.heap.size v (Nm.rising l) ∧ Below w.heap.size w w' := by
  have HR := Lib.hid hr
  have HN := Lib.hid hn
  have HX := Lib.hid hx
  clear hr hn hx
  go_enter Tryz.func130, Tryz.ntmps130
  go_wp2_with fail
  go_loopw [3, 4] (fun v i wr => ∃ k : Nat, k ≤ n ∧ i = .int .i64 k ∧ OwnT wr w.heap.size v (Nm.rising (l.take k)) ∧ Below w.heap.size w wr) (fun _ i _ => n - (intOf i).toNat)
  case atStart => exact ⟨0, Nat.zero_le _, rfl, by simpa [Nm.rising] using OwnT.nil w _, Below.refl _ _⟩
  case round =>
    obtain ⟨k, hk, rfl, ho, hb⟩ := hrel
    have HO := Lib.hid ho
    have HB := Lib.hid hb
    clear ho hb
    by_cases hlt : k < n
    · obtain ⟨b, off, rfl, hcell⟩ := (HR.out.below HB.out (Nat.le_refl _)).get k (by rw [HN.out]; exact hlt)
      have HT := Lib.hid (take_snocT l k (by rw [HN.out]; exact hlt))
      have HXL : Hid ((l.getD k []).length ≤ 1000000) := Lib.hid (HX.out _ (by
        rw [show l.getD k [] = l[k]'(by rw [HN.out]; exact hlt) from by simp [List.getD, show k < l.length by rw [HN.out]; exact hlt]]
        exact List.getElem_mem _))
      have HOL : Hid (∀ y ∈ Nm.rising (l.take k), y.length ≤ 1000000) := Lib.hid (fun y hy => HX.out y (List.mem_of_mem_take ((Nm.mem_rising _ y).1 hy)))
      have hlen : (Nm.rising (l.take k)).length ≤ k := Nat.le_trans (Nm.rising_len _) (by rw [List.length_take]; omega)
      have HRS := Lib.hid (Nm.rising_snoc (l.take k) (l.getD k []))
      generalize l.getD k [] = x at *
      obtain ⟨out, hout⟩ : ∃ out, out = Nm.rising (l.take k) := ⟨_, rfl⟩
      rw [← hout] at HO HOL HRS hlen
      rw [← HT.out] at HRS
      clear hout HT
      obtain ⟨A', c', rfl, hro, hnil, hoc, hoc2⟩ := HO.out.reads
      have HRO := Lib.hid hro
      generalize hm : out.length = m at *
      have HM := Lib.hid hm
      clear hm hro
      rename World => w1
      have HBF := Lib.hid (fun (y : List UInt8) (W : World) (hy : y.length ≤ 1000000) => before_any y x W hy HXL.out)
      go_wp2_with fail
      go_loopw [5] (fun kv wq => ∃ j : Nat, j ≤ m ∧ kv = .int .i64 j ∧ (∀ t, t < j → out.getD t [] < x) ∧ ∃ q, wq = w1.drewN q) (fun kv _ => m - (intOf kv).toNat)
      case atStart => exact ⟨0, Nat.zero_le _, rfl, fun t h => absurd h (Nat.not_lt_zero _), 0, rfl⟩
      case round =>
        obtain ⟨j, hj, rfl, hbf, q, hq⟩ := hrel
        have HJ := Lib.hid hbf
        have HQ := Lib.hid hq
        have hcellk : wr.cell? ⟨b, off + k, none⟩ = some (encStr x) := by rw [hq]; exact hcell
        have HRQ : Hid (ReadsT wr A' out) := Lib.hid (by rw [hq]; exact HRO.out)
        have HOQ : Hid (OwnT wr w.heap.size (.slice A' m c') out) := Lib.hid (by rw [hq]; exact HO.out)
        have HBQ : Hid (Below w.heap.size w wr) := Lib.hid (by rw [hq]; exact below_drewN HB.out q)
        clear hbf hq hcell
        by_cases hjm : j < m
        · obtain ⟨g, off2, rfl, hcell2⟩ := HRQ.out.get j (by rw [HM.out]; exact hjm)
          have HYL : Hid ((out.getD j []).length ≤ 1000000) := Lib.hid (HOL.out _ (by
            rw [show out.getD j [] = out[j]'(by rw [HM.out]; exact hjm) from by simp [List.getD, show j < out.length by rw [HM.out]; exact hjm]]
            exact List.getElem_mem _))
          obtain ⟨y, hy⟩ : ∃ y, y = out.getD j [] := ⟨_, rfl⟩
          rw [← hy] at hcell2 HYL
          have HY := Lib.hid hy
          clear hy
          by_cases hyx : y < x
          · have HBT : Hid (∀ W, Calls Tryz.prog 125 #[encStr y, encStr x] W fun e w' => e = .returned (.bool true) ∧ ∃ q, w' = W.drewN q) := Lib.hid (fun W => by have h := HBF.out y W HYL.out; rw [decide_eq_true hyx] at h; exact h)
            go_wp2_with fail
            go_quiet (first | (go_at_call 125; exact Calls.quiet_of (HBT.out _)))
            go_wp2_with fail
            go_roundw
            case rel => exact ⟨j + 1, by omega, by go_num, fun t ht => by
              by_cases e : t = j
              · subst e; rw [← HY.out]; exact hyx
              · exact HJ.out t (by omega), by rw [HQ.out, World.drewN_drewN]; exact ⟨_, rfl⟩⟩
            case measure => simp [intOf]; omega
          · have HBT : Hid (∀ W, Calls Tryz.prog 125 #[encStr y, encStr x] W fun e w' => e = .returned (.bool false) ∧ ∃ q, w' = W.drewN q) := Lib.hid (fun W => by have h := HBF.out y W HYL.out; rw [decide_eq_false hyx] at h; exact h)
            go_wp2_with fail
            go_quiet (first | (go_at_call 125; exact Calls.quiet_of (HBT.out _)))
            rename Nat => q1
            go_wp2_with fail
            by_cases hey : y = x
            · have hb1 : (y == x) = true := beq_iff_eq.2 hey
              have HIN : Hid (Nm.rising (l.take (k + 1)) = out) := Lib.hid (by rw [HRS.out]; exact Nm.ins_there x j out (by rw [HM.out]; exact hjm) HJ.out (by rw [← HY.out]; exact hey))
              go_quiet (fail)
              rename Nat => q2
              go_wp2_with fail
              go_roundw
              case rel => exact ⟨k + 1, by omega, by go_num, by rw [HIN.out]; exact HOQ.out, below_drewN HBQ.out _⟩
              case measure => simp [intOf]; omega
            · have hb1 : (y == x) = false := beq_eq_false_iff_ne.2 hey
              go_quiet (fail)
              rename Nat => q2
              go_wp2_with fail
              have HIN : Hid (Nm.rising (l.take (k + 1)) = out.take j ++ [x] ++ out.drop j) := Lib.hid (by rw [HRS.out]; exact Nm.ins_at x j out (by rw [HM.out]; omega) HJ.out (fun _ => by rw [← HY.out]; exact ⟨hyx, hey⟩))
              obtain ⟨W0, hW0⟩ : ∃ W0, W0 = (wr.drewN q1).drewN q2 := ⟨_, rfl⟩
              rw [← hW0]
              have HRW : Hid (ReadsT W0 (some ⟨g, off2, none⟩) out) := Lib.hid (by rw [hW0]; exact HRQ.out)
              have HBW : Hid (Below w.heap.size w W0) := Lib.hid (by rw [hW0]; exact below_drewN (below_drewN HBQ.out _) _)
              have HCK : Hid (W0.cell? ⟨b, off + k, none⟩ = some (encStr x)) := Lib.hid (by rw [hW0]; exact hcellk)
              clear hW0 hcellk HRQ HBQ HOQ
              obtain ⟨cs, hmk, hmo⟩ := run_makeT (m + 1) (by omega)
              have hmk' : ∀ W : World, (Instr.makeSlice 35 (.int .i64 0) (.int .i64 ((m : Int) + 1))).run Tryz.prog W = .ok (.slice (some ⟨W.heap.size, 0, none⟩) 0 (m + 1)) (W.alloc (.cells cs 9)) := fun W => by have h := hmk W; simpa using h
              have hwrap : IntKind.i64.wrap ((m : Int) + 1) = (m : Int) + 1 := by rw [IntKind.wrap_i64]; omega
              have HMO := Lib.hid hmo
              have hcut := fun W => run_cutT_h W (some ⟨g, off2, none⟩) m c' j (by omega)
              have hcut2 := fun W => run_cutT_l W (some ⟨g, off2, none⟩) m c' j (by omega)
              clear hmk hmo
              have HZ : Hid (Below W0.heap.size W0 (W0.drew.alloc (.cells cs 9))) := Lib.hid (balloc (Below.refl W0.heap.size W0).drew _)
              go_region_law (refine step_appT (.tmp 48) (.tmp 51) (by rfl) W0.heap.size _ [] (out.take j) (by rfl) (HMO.out W0.drew) (some ⟨g, off2, none⟩) j c' (by rfl) (by rw [List.length_take, HM.out]; omega) ((HRW.out.below HZ.out (Nat.le_refl _)).take j) (by simp; omega) (by simp) ?_; intro v6 w6 hown6 hg6 hv6; have H06 := Lib.hid (HZ.out.grown hg6 (by simp) (fun g hg => by cases hg; exact Nat.le_refl _)); have HO6 := Lib.hid hown6; clear hown6 hg6 hv6)
              simp only [List.nil_append] at HO6
              have hc6 := (H06.out.cell (p := ⟨b, off + k, none⟩) (World.block_lt_of_cell? W0 _ HCK.out)).trans HCK.out
              have hbs6 := H06.out.size
              go_wp2_with (first
                | (have _t := H06; at_builtin; refine wpList_appT (w := w6.alloc _) rfl (.tmp 53) (.tmp 58) rfl W0.heap.size _ _ [x] rfl (HO6.out.alloc _) _ 1 1 rfl rfl (ReadsT.made _ _ _ _ _ _ (by simp) rfl) (by rw [List.length_take]; omega) (by simp; omega) ?_; intro v7 w7 hown7 hg7 hv7; have H07 := Lib.hid ((balloc H06.out _).grown hg7 (by simp; omega) (fun g hg => (HO6.out.lt g hg).1)); have HO7 := Lib.hid hown7; clear hown7 hg7 hv7 H06)
                | (have _t := H07; at_builtin; refine wpList_appT (w := w7) rfl (.tmp 60) (.tmp 63) rfl W0.heap.size _ _ (out.drop j) rfl HO7.out (cutA (some ⟨g, off2, none⟩) c' j) (m - j) (c' - j) rfl (by rw [List.length_drop, HM.out]) ((HRW.out.below H07.out (Nat.le_refl _)).cut c' j (by rw [HM.out]; exact hoc) (fun e => (hnil e).2) (by rw [HM.out]; omega)) (by simp; omega) H07.out.size ?_; intro v8 w8 hown8 hg8 hv8; have H08 := Lib.hid (H07.out.grown hg8 H07.out.size (fun g hg => (HO7.out.lt g hg).1)); have HO8 := Lib.hid hown8; clear hown8 hg8 hv8 H07)
                | fail)
              go_roundw
              case rel => exact ⟨k + 1, by omega, by go_num, by rw [HIN.out]; exact HO8.out.mono HBW.out.size, HBW.out.trans (H08.out.mono HBW.out.size)⟩
              case measure => simp [intOf]; omega
        · go_wp2_with fail
          go_quiet (fail)
          rename Nat => q1
          go_wp2_with fail
          go_quiet (fail)
          rename Nat => q2
          go_wp2_with fail
          have HIN : Hid (Nm.rising (l.take (k + 1)) = out.take j ++ [x] ++ out.drop j) := Lib.hid (by rw [HRS.out]; exact Nm.ins_at x j out (by rw [HM.out]; omega) HJ.out (fun h => absurd h (by rw [HM.out]; exact hjm)))
          obtain ⟨W0, hW0⟩ : ∃ W0, W0 = (wr.drewN q1).drewN q2 := ⟨_, rfl⟩
          rw [← hW0]
          have HRW : Hid (ReadsT W0 A' out) := Lib.hid (by rw [hW0]; exact HRQ.out)
          have HBW : Hid (Below w.heap.size w W0) := Lib.hid (by rw [hW0]; exact below_drewN (below_drewN HBQ.out _) _)
          have HCK : Hid (W0.cell? ⟨b, off + k, none⟩ = some (encStr x)) := Lib.hid (by rw [hW0]; exact hcellk)
          clear hW0 hcellk HRQ HBQ HOQ
          obtain ⟨cs, hmk, hmo⟩ := run_makeT (m + 1) (by omega)
          have hmk' : ∀ W : World, (Instr.makeSlice 35 (.int .i64 0) (.int .i64 ((m : Int) + 1))).run Tryz.prog W = .ok (.slice (some ⟨W.heap.size, 0, none⟩) 0 (m + 1)) (W.alloc (.cells cs 9)) := fun W => by have h := hmk W; simpa using h
          have hwrap : IntKind.i64.wrap ((m : Int) + 1) = (m : Int) + 1 := by rw [IntKind.wrap_i64]; omega
          have HMO := Lib.hid hmo
          have hcut := fun W => run_cutT_h W A' m c' j (by omega)
          have hcut2 := fun W => run_cutT_l W A' m c' j (by omega)
          clear hmk hmo
          have HZ : Hid (Below W0.heap.size W0 (W0.drew.alloc (.cells cs 9))) := Lib.hid (balloc (Below.refl W0.heap.size W0).drew _)
          go_region_law (refine step_appT (.tmp 48) (.tmp 51) (by rfl) W0.heap.size _ [] (out.take j) (by rfl) (HMO.out W0.drew) A' j c' (by rfl) (by rw [List.length_take, HM.out]; omega) ((HRW.out.below HZ.out (Nat.le_refl _)).take j) (by simp; omega) (by simp) ?_; intro v6 w6 hown6 hg6 hv6; have H06 := Lib.hid (HZ.out.grown hg6 (by simp) (fun g hg => by cases hg; exact Nat.le_refl _)); have HO6 := Lib.hid hown6; clear hown6 hg6 hv6)
          simp only [List.nil_append] at HO6
          have hc6 := (H06.out.cell (p := ⟨b, off + k, none⟩) (World.block_lt_of_cell? W0 _ HCK.out)).trans HCK.out
          have hbs6 := H06.out.size
          go_wp2_with (first
            | (have _t := H06; at_builtin; refine wpList_appT (w := w6.alloc _) rfl (.tmp 53) (.tmp 58) rfl W0.heap.size _ _ [x] rfl (HO6.out.alloc _) _ 1 1 rfl rfl (ReadsT.made _ _ _ _ _ _ (by simp) rfl) (by rw [List.length_take]; omega) (by simp; omega) ?_; intro v7 w7 hown7 hg7 hv7; have H07 := Lib.hid ((balloc H06.out _).grown hg7 (by simp; omega) (fun g hg => (HO6.out.lt g hg).1)); have HO7 := Lib.hid hown7; clear hown7 hg7 hv7 H06)
            | (have _t := H07; at_builtin; refine wpList_appT (w := w7) rfl (.tmp 60) (.tmp 63) rfl W0.heap.size _ _ (out.drop j) rfl HO7.out (cutA A' c' j) (m - j) (c' - j) rfl (by rw [List.length_drop, HM.out]) ((HRW.out.below H07.out (Nat.le_refl _)).cut c' j (by rw [HM.out]; exact hoc) (fun e => (hnil e).2) (by rw [HM.out]; omega)) (by simp; omega) H07.out.size ?_; intro v8 w8 hown8 hg8 hv8; have H08 := Lib.hid (H07.out.grown hg8 H07.out.size (fun g hg => (HO7.out.lt g hg).1)); have HO8 := Lib.hid hown8; clear hown8 hg8 hv8 H07)
            | fail)
          go_roundw
          case rel => exact ⟨k + 1, by omega, by go_num, by rw [HIN.out]; exact HO8.out.mono HBW.out.size, HBW.out.trans (H08.out.mono HBW.out.size)⟩
          case measure => simp [intOf]; omega
    · obtain rfl : k = n := by omega
      have HE : Hid (l.take k = l) := Lib.hid (by rw [← HN.out, List.take_length])
      rw [HE.out] at HO
      go_wp2_with fail
      go_ret
      exact ⟨_, rfl, HO.out, HB.out⟩
end Go.Proofs.YtlflijhnlcdakaaGreatDoor

namespace Go.Proofs.YtlflijhnlcdakaaGreatDoor
open Go.RowKit Go.Maps

section
variable {w : World} {sb ob ub : Nat} {sv : Value} {ov : St.Nm → Option Value} {pb : Int → Nat} {pv : Int → Int → Option Value} {s : St.S} {m : Nat} {S D : Nat → Prop}
/-- An object goes. -/
theorem StoreL.dropObj {w2 : World} (h : StoreL w sb ob ub sv ov pb pv s m S D) {k : List UInt8} (hm : MapS w2 ob m (updV ov k none)) (hg : w.grownBy w2 (some ob)) (hz : w2.heap.size = w.heap.size) :
    StoreL w2 sb ob ub sv (updV ov k none) pb pv { s with objs := St.upd s.objs k none } m S D := by
  have hoth : ∀ g, g ≠ ob → g < w.heap.size → w2.heap[g]? = w.heap[g]? := fun g hne hl => hg.block g hl (by intro e; injection e with e; exact hne e)
  have hD := fun (v : Value) (l : List UInt8) (hd : DataAt w D v l) => hd.kept (w' := w2) (by omega) fun g hx hl => hoth g (fun e => h.sd _ h.mob (e ▸ hx)) hl
  have hmp : ∀ {κ : Type} {kt : TypeId} {mk : κ → Lit} {x : Nat} {f : κ → Option Value}, MapV kt mk w x m f → x ≠ ob → MapV kt mk w2 x m f := fun hmap hne => hmap.same (hoth _ hne hmap.lt)
  have hsb : sb ≠ ob := fun e => by
    obtain ⟨es, clock, he⟩ := h.objs.isMap
    rw [← e, h.box] at he; cases he
  refine { box := (hoth _ hsb (h.lt _ (.inl h.msb))).trans h.box, objs := hm, oat := fun x => ?_, ups := hmp h.ups h.ne.symm, parts := fun i u hu => ?_, inj := h.inj, ne := h.ne, scr := h.scr.kept fun g hS hl ⟨cs, hcs⟩ => hoth g (fun e => ?_) hl, msb := h.msb, mob := h.mob, mub := h.mub, sd := h.sd, lt := fun g hx => by rw [hz]; exact h.lt g hx, keys := fun x hx => h.keys x (fun e => hx (by show St.upd s.objs k none x = none; unfold St.upd; split; rfl; exact e)), last := h.last }
  · by_cases e : x = k
    · subst e; simp only [updV, St.upd, if_true]; trivial
    · simp only [updV, St.upd, if_neg e]; exact (h.oat x).imp hD
  · obtain ⟨p1, p2, p3, p4, p5, p6, p7, p8⟩ := h.parts i u hu
    exact ⟨hmp p1 p4, fun n => (p2 n).imp hD, p3, p4, p5, p6, p7, p8⟩
  · subst e
    obtain ⟨es, clock, he⟩ := h.objs.isMap
    rw [hcs] at he; cases he
end

set_option maxRecDepth 100000 in
set_option maxHeartbeats 1000000 in
/-- The closure of Delete. -/
theorem stDel1_any (p : Nat → Addr) {w : World} {sb ob ub : Nat} {sv : Value} {ov : St.Nm → Option Value} {pb : Int → Nat} {pv : Int → Int → Option Value} {s : St.S} {m : Nat} {S D : Nat → Prop} (h : StoreL w sb ob ub sv ov pb pv s m S D)
    (hs6 : w.cell? ⟨1, 0, none⟩ = some (errV (p 6))) (xb ib : Nat) (k : List UInt8) (hk : k.length ≤ 9223372036854775807)
    (c1 : w.cell? ⟨xb, 0, none⟩ = some (.pointer (some ⟨sb, 0, none⟩))) (c2 : w.cell? ⟨ib, 0, none⟩ = some (encStr k)) :
    Calls Tryz.prog 90 #[.pointer (some ⟨xb, 0, none⟩), .pointer (some ⟨ib, 0, none⟩)] w fun e w' => e = .returned (errR p (s.delF k).1.2) ∧ StPost w sb (s.delF k).2 (m + 1) S D w' := by
  obtain ⟨A, c, hlk, -, -⟩ := h.lookObj k hk
  have b1 : w.cell? ⟨sb, 0, none⟩ = some (.map (some ob)) := box_cell h.box 0
  unfold errV at hs6
  have HH := hide h
  obtain ⟨r, hr⟩ : ∃ r, s.delF k = r := ⟨_, rfl⟩
  rw [hr]
  unfold St.S.delF at hr
  have HL := hide hlk
  cases hu : s.objs k with
  | none =>
    rw [hu] at hr hlk
    subst hr
    simp only [Option.getD_none, Option.isSome_none, List.length_nil] at hlk
    have d3 : (encStr k) = .string ⟨k.toArray⟩ := rfl
    rw [d3] at c2 hlk
    clear h hu d3 HL
    go_enter Tryz.func90, Tryz.ntmps90
    go_wp2_with fail
    go_quiet (fail)
    go_wp2_with fail
    go_ret
    exact ⟨rfl, (StPost.of_same (IsStore.below ⟨_, _, _, _, _, _, HH.out⟩ (below_drewN (Below.refl _ _) _)) (Chg.of_below (below_drewN (Below.refl _ _) _))).mono (Nat.le_succ _)⟩
  | some u =>
    rw [hu] at hr hlk
    simp only at hr
    simp only [Option.getD_some, Option.isSome_some] at hlk
    have d3 : (encStr k) = .string ⟨k.toArray⟩ := rfl
    have HK := hide hk
    rw [d3] at c2 hlk
    subst hr
    clear h hu d3 HL hs6
    go_enter Tryz.func90, Tryz.ntmps90
    go_wp2_with fail
    go_quiet (fail)
    rename_i nq
    have x1 : (w.drewN nq).cell? ⟨xb, 0, none⟩ = some (.pointer (some ⟨sb, 0, none⟩)) := c1
    have x2 : (w.drewN nq).cell? ⟨ib, 0, none⟩ = some (.string ⟨k.toArray⟩) := c2
    have x3 : (w.drewN nq).cell? ⟨sb, 0, none⟩ = some (.map (some ob)) := b1
    clear c1 c2 b1 hlk
    generalize hW1 : w.drewN nq = W1 at *
    have hb1 : Below w.heap.size w W1 := hW1 ▸ below_drewN (Below.refl _ _) nq
    have HB1 := hide hb1
    have HH1 := hide (HH.out.kept (w' := W1) hb1.size fun g _ hl => hb1.block g hl)
    clear hW1 hb1
    go_wp2_with fail
    have HHQ := hide (HH1.out.kept (w' := W1.drew) (Nat.le_refl _) fun _ _ _ => rfl)
    obtain ⟨w5, hdel, hm5, hg5, hz5⟩ := HHQ.out.objs.del strK map_objs k (strKey HK.out) (strInj k) 0
    have HF := hide (HHQ.out.dropObj hm5 hg5 hz5)
    have HC5 : Hid (Chg S w w5) := hide (((Chg.of_below HB1.out).then (Chg.of_below (below_drewN (Below.refl _ _) 1))).then (Chg.of_grown hg5 fun g e => by injection e with e; exact e ▸ HH.out.mob))
    clear hm5 hg5 hz5
    go_region
    go_wp2_with fail
    go_ret
    exact ⟨rfl, (StPost.of_same ⟨_, _, _, _, _, _, HF.out⟩ HC5.out).mono (Nat.le_succ _)⟩

def St.S.del (s : St.S) (k : St.Nm) : (Unit × Option Nat) × St.S := s.ask () (St.S.delF k)
theorem St.del_quiet (k : St.Nm) : St.Quiet (St.S.delF k) := fun t => by unfold St.S.delF; split <;> exact ⟨rfl, rfl⟩
set_option maxRecDepth 100000 in
set_option maxHeartbeats 1000000 in
theorem StS.del {w0 w : World} {S D : Nat → Prop} {sb n : Nat} {s : St.S} (h : StS w0 S D sb s n w) (p : Nat → Addr) (hs : Sents w0 p) (hn : n ≤ 1000000) (k : List UInt8) (hk : k.length ≤ 100000) :
    Calls Tryz.prog 20 #[.pointer (some ⟨sb, 0, none⟩), encStr k] w fun e w' => e = .returned (errR p (s.del k).1.2) ∧ ∃ S' D', StS w0 S' D' sb (s.del k).2 (n + 1) w' ∧ StGo S D S' D' w w' := by
  obtain ⟨W, hW⟩ : ∃ W, W = ((w.alloc (.cells #[.pointer (some ⟨sb, 0, none⟩)] 24)).alloc (.cells #[encStr k] 9)) := ⟨_, rfl⟩
  have hb : Below w.heap.size w W := hW ▸ balloc (balloc (Below.refl _ _) _) _
  have q0 : W.cell? ⟨w.heap.size, 0, none⟩ = some (.pointer (some ⟨sb, 0, none⟩)) := by
    rw [hW, World.cell?_alloc_lt _ _ _ (by simp <;> omega), World.cell?_alloc_mark]; rfl
  have q1 : W.cell? ⟨w.heap.size + 1, 0, none⟩ = some (encStr k) := by
    have e : (w.alloc (.cells #[.pointer (some ⟨sb, 0, none⟩)] 24)).heap.size = w.heap.size + 1 := by simp
    rw [hW, ← e, World.cell?_alloc_mark]; rfl
  have hbW := h.below.trans (hb.mono h.below.size)
  have hsb : sb < w.heap.size := by obtain ⟨_, _, _, _, _, _, hl⟩ := h.st; exact hl.lt _ (.inl hl.msb)
  have hSg : ∀ j, j < 19 → ¬ S (gs.getD j 0) := fun j hj hS => by have := h.lo _ (.inl hS); have := hs.size j hj; omega
  have hsbg : ∀ j, j < 19 → gs.getD j 0 ≠ sb := fun j hj e => by obtain ⟨_, _, _, _, _, _, hl⟩ := h.st; exact hSg j hj (e ▸ hl.msb)
  have HB := hide (bareCall (h.st.below hb) ⟨h.calls.1, by have := h.calls.2; omega⟩ ⟨h.failed.1, by have := h.failed.2; omega⟩ p (errCell hs hbW 10 (by omega)) (hSg 10 (by omega)) 90 #[.pointer (some ⟨w.heap.size, 0, none⟩), .pointer (some ⟨w.heap.size + 1, 0, none⟩)] (enters_of Tryz.func90 (by kernel_rfl) rfl) (St.S.delF k)
    fun w1 hc1 h1 => by
      obtain ⟨ob, ub, sv, ov, pb, pv, h1⟩ := h1
      exact stDel1_any p h1 (hc1.cell (errCell hs hbW 6 (by omega)) (hsbg 6 (by omega))) _ _ k (by omega) (hc1.cell q0 (by show ¬ (w.heap.size = sb); omega)) (hc1.cell q1 (by show ¬ (w.heap.size + 1 = sb); omega)))
  have HP : Hid (∀ w', StPost W sb (s.ask () (St.S.delF k)).2 (n + 1) S D w' → ∃ S' D', StS w0 S' D' sb (s.ask () (St.S.delF k)).2 (n + 1) w' ∧ StGo S D S' D' w w') := hide (fun w' hp => by
    have hq := St.ask_num (St.del_quiet k) s ()
    have := h.calls; have := h.failed
    exact h.post (hp.ahead (Chg.of_below hb)) ⟨by omega, by omega⟩ ⟨by omega, by omega⟩)
  have HW := hide hW
  clear h hs hW hb q0 q1 hbW hSg hsbg hsb
  go_enter Tryz.func20, Tryz.ntmps20
  go_wp2_with (first
    | (go_at_call 71; rw [← HW.out]; refine HB.out.mono ?_; rintro e w1 ⟨rfl, hp⟩; have H := hide (HP.out _ hp); clear hp)
    | fail)
  go_ret
  exact ⟨rfl, H.out⟩
end Go.Proofs.YtlflijhnlcdakaaGreatDoor

namespace Go.Proofs.YtlflijhnlcdakaaGreatDoor
open Go.RowKit Go.Maps

/-- A row of texts of the call's own, apart from a store. -/
structure Tr (S D : Nat → Prop) (B : Nat) (v : Value) (l : List (List UInt8)) (w : World) : Prop where
  own : OwnT w B v l
  ns : ∀ g, v.ownBlock = some g → ¬ S g ∧ ¬ D g
section
variable {S D S' D' : Nat → Prop} {B : Nat} {v v' : Value} {l : List (List UInt8)} {w w' : World}
theorem Tr.below (h : Tr S D B v l w) (hw : Below w.heap.size w w') : Tr S D B v l w' := ⟨h.own.below hw (Nat.le_refl _), h.ns⟩
theorem Tr.chg (h : Tr S D B v l w) (hg : Chg S w w') : Tr S D B v l w' := ⟨ownsRow_same h.own fun g e => hg.block g (h.own.lt g e).2 (h.ns g e).1, h.ns⟩
theorem Tr.go (h : Tr S D B v l w) (hg : StGo S D S' D' w w') : Tr S' D' B v l w' :=
  ⟨(h.chg hg.chg).own, fun g e => ⟨fun hk => by
    rcases hg.s _ hk with h1 | h1
    · exact (h.ns g e).1 h1
    · have := (h.own.lt g e).2; omega, fun hk => by
    rcases hg.d _ hk with h1 | h1
    · exact (h.ns g e).2 h1
    · have := (h.own.lt g e).2; omega⟩⟩
theorem Tr.put (h : Tr S D B v l w) (l' : List (List UInt8)) (ho : OwnT w' B v' l') (hS : ∀ k, S k ∨ D k → k < w.heap.size) (hv : v'.ownBlock = v.ownBlock ∨ v'.ownBlock = some w.heap.size) : Tr S D B v' l' w' :=
  ⟨ho, fun g hg => by
    rcases hv with e | e
    · exact h.ns g (e ▸ hg)
    · rw [e] at hg; cases hg
      exact ⟨fun hk => by have := hS _ (.inl hk); omega, fun hk => by have := hS _ (.inr hk); omega⟩⟩
end
theorem StS.grownT {w0 w w' : World} {S D : Nat → Prop} {sb n : Nat} {s : St.S} {row : Option Nat} (h : StS w0 S D sb s n w) (hg : w.grownBy w' row) (hr : ∀ g, row = some g → (¬ S g ∧ ¬ D g) ∧ w0.heap.size ≤ g) : StS w0 S D sb s n w' :=
  ⟨h.st.kept hg.size (fun k hk hlt => hg.block k hlt (fun e => by
    have := hr k e.symm
    rcases hk with hk | hk
    · exact this.1.1 hk
    · exact this.1.2 hk)), h.lo, h.below.grown hg h.below.size (fun k e => (hr k e).2), h.calls, h.failed⟩
theorem below_drew_t {w w' : World} (h : ∃ k, w' = w.drewN k) : Below w.heap.size w w' := by
  obtain ⟨q, rfl⟩ := h; exact below_drewN (Below.refl _ _) q
theorem byte_cellsT (j : Nat) (hj : j < 256) : (cells [UInt8.ofNat j]).toArray = #[.int .u8 (j : Int)] := by
  have h1 : ((UInt8.ofNat j).toNat : Int) = (j : Int) := by rw [UInt8.toNat_ofNat']; omega
  simp only [cells, List.map_cons, List.map_nil, byteV, B, h1]
theorem own_t {w : World} {base n : Nat} {v : Value} {l : List (List UInt8)} (h : OwnT w base v l) (hn : l.length = n) : ∃ A c, v = .slice A n c ∧ ReadsT w A l := by
  obtain ⟨A, c, e, hr, -⟩ := h.reads
  exact ⟨A, c, by rw [e, hn], hr⟩
namespace St
theorem ask_freeT {α : Type} (s : S) (h : s.script = []) (z : α) (f : S → (α × Option Nat) × S) : s.ask z f = f s.took := by
  have ho : s.out = 0 := by simp [S.out, h]
  unfold S.ask
  rw [ho, if_neg (by omega), if_neg (by omega)]
structure AtL (hv : List Nm) (s : S) : Prop where
  script : s.script = []
  objs : ∀ x, s.objs x ≠ none ↔ x ∈ hv
variable {hv : List Nm} {s : S}
theorem AtL.took (h : AtL hv s) : AtL hv s.took := ⟨by simp [S.took, h.script], h.objs⟩
theorem AtL.put (h : AtL hv s) (k : Nm) (b : List UInt8) (hk : Dk.valid k = true) : (s.put k b).1.2 = none ∧ AtL (hv ++ [k]) (s.put k b).2 := by
  have e : s.put k b = S.putF k b s.took := ask_freeT _ h.script _ _
  rw [e]
  unfold S.putF
  rw [if_pos hk]
  refine ⟨rfl, h.took.script, fun x => ?_⟩
  rw [List.mem_append, List.mem_singleton]
  by_cases ex : x = k
  · simp [upd, ex]
  · simp only [upd, if_neg ex]
    rw [h.took.objs x]
    simp [ex]
theorem AtL.putBad (h : AtL hv s) (k : Nm) (b : List UInt8) (hk : ¬ Dk.valid k = true) : (s.put k b).1.2 = some 5 ∧ AtL hv (s.put k b).2 := by
  have e : s.put k b = S.putF k b s.took := ask_freeT _ h.script _ _
  rw [e]
  unfold S.putF
  rw [if_neg hk]
  exact ⟨rfl, h.took⟩
theorem AtL.list (h : AtL hv s) : s.list = ((some s.took, none), s.took) := ask_freeT _ h.script _ _
theorem AtL.del (h : AtL hv s) (k : Nm) (hk : k ∈ hv) : (s.del k).1.2 = none ∧ (s.del k).2.script = [] ∧ ∀ x, (s.del k).2.objs x ≠ none ↔ x ∈ hv ∧ x ≠ k := by
  have e : s.del k = S.delF k s.took := ask_freeT _ h.script _ _
  rw [e]
  unfold S.delF
  cases hu : s.took.objs k with
  | none => exact absurd hu ((h.took.objs k).2 hk)
  | some u =>
    refine ⟨rfl, h.took.script, fun x => ?_⟩
    by_cases ex : x = k
    · simp [upd, ex]
    · simp only [upd, if_neg ex]
      rw [h.took.objs x]
      simp [ex]
theorem AtL.delNone (h : AtL hv s) (k : Nm) (hk : k ∉ hv) : (s.del k).1.2 = some 6 ∧ AtL hv (s.del k).2 := by
  have e : s.del k = S.delF k s.took := ask_freeT _ h.script _ _
  rw [e]
  unfold S.delF
  have hu : s.took.objs k = none := Classical.byContradiction fun hn => hk ((h.took.objs k).1 hn)
  rw [hu]
  exact ⟨rfl, h.took⟩
theorem AtL.lists (h : AtL hv s) {l : List Nm} (hl : ListsS s.objs l) : l = Go.Proofs.YtlflijhnlcdakaaGreatDoor.Nm.rising hv :=
  Go.Proofs.YtlflijhnlcdakaaGreatDoor.Nm.strict_ext _ _ hl.1 (Go.Proofs.YtlflijhnlcdakaaGreatDoor.Nm.rising_rises _) fun x => (hl.2 x).trans ((h.objs x).trans (Go.Proofs.YtlflijhnlcdakaaGreatDoor.Nm.mem_rising _ x).symm)
theorem AtL.fewer (h : AtL hv s) {l : List Nm} (hl : ListsS s.objs l) : l.length ≤ hv.length := by
  rw [h.lists hl]; exact Go.Proofs.YtlflijhnlcdakaaGreatDoor.Nm.rising_len _
theorem under_all (s : S) : s.under [] = s.objs := by
  funext x; unfold S.under; simp [Lib.hasPrefix]
theorem erase_lists {R : List Nm} (hR : R.Pairwise (· < ·)) (hnd : R.Nodup) (k : Nm) : (R.erase k).Pairwise (· < ·) ∧ ∀ x, x ∈ R.erase k ↔ x ∈ R ∧ x ≠ k :=
  ⟨hR.sublist List.erase_sublist, fun x => by rw [List.Nodup.mem_erase_iff hnd]; exact And.comm⟩
theorem rising_nodup (l : List Nm) : (Go.Proofs.YtlflijhnlcdakaaGreatDoor.Nm.rising l).Nodup := (Go.Proofs.YtlflijhnlcdakaaGreatDoor.Nm.rising_rises l).imp fun {a b} (h : a < b) (e : a = b) => by subst e; exact absurd h (List.lt_irrefl a)
/-- What a list of names is, one of them gone. -/
theorem AtL.gone {R : List Nm} {k : Nm} (h : AtL (R.erase k) s) (hR : R.Pairwise (· < ·)) (hnd : R.Nodup) (hk : k ∈ R) {l : List Nm} (hl : ListsS s.objs l) : l.length + 1 = R.length := by
  obtain ⟨h1, -⟩ := erase_lists hR hnd k
  have e : l = R.erase k := Go.Proofs.YtlflijhnlcdakaaGreatDoor.Nm.strict_ext _ _ hl.1 h1 fun x => (hl.2 x).trans (h.objs x)
  rw [e, List.length_erase_of_mem hk]
  have := List.length_pos_of_mem hk
  omega
end St
end Go.Proofs.YtlflijhnlcdakaaGreatDoor

namespace Go.Proofs.YtlflijhnlcdakaaGreatDoor.St

/-- One object, no upload. -/
structure OneO (b : List UInt8) (s : S) : Prop where
  objs : s.objs = upd (fun _ => none) [97] (some b)
  ups : ∀ i, s.ups i = none
theorem OneO.took {b : List UInt8} {s : S} (h : OneO b s) : OneO b s.took := ⟨h.objs, h.ups⟩
theorem OneO.at_ {b : List UInt8} {s : S} (h : OneO b s) : s.objs [97] = some b := by rw [h.objs, upd_same]
theorem o_put (b : List UInt8) : (cput 3 [97] b S.new).r = none ∧ (cput 3 [97] b S.new).st.script = [] ∧ OneO b (cput 3 [97] b S.new).st := by
  have hv : Dk.valid [97] = true := by decide
  have e : bareOf (fun s => s.ask () (S.putF [97] b)) S.new = (none, { S.new.took with objs := upd (fun _ => none) [97] (some b) }) := by
    simp [bareOf, S.ask, S.out, S.new, S.putF, hv, S.took]
  have h := agn_stop (f := bareOf fun s => s.ask () (S.putF [97] b)) (n := 2) (last := none) (s := S.new) (by rw [e]; simp)
  have h2 : cput 3 [97] b S.new = ⟨none, 1, { S.new.took with objs := upd (fun _ => none) [97] (some b) }⟩ := by
    refine Eq.trans ?_ (h.trans (by rw [e]))
    rfl
  rw [h2]
  exact ⟨rfl, rfl, rfl, fun _ => rfl⟩
theorem OneO.asked {b : List UInt8} {s : S} (h : OneO b s) : OneO b (s.ask none S.listF).2 := by
  unfold S.ask
  split
  · exact h.took
  · split <;> exact h.took
theorem OneO.scripted {b : List UInt8} {s : S} (h : OneO b s) (zs : List Int) : OneO b (s.scripted zs) := ⟨h.objs, h.ups⟩
theorem lists_oneS {α : Type} {v : α} {f : Nm → Option α} (hf : f = upd (fun _ => none) [97] (some v)) {l : List Nm} (h : ListsS f l) : l = [[97]] := by
  refine Go.Proofs.YtlflijhnlcdakaaGreatDoor.Nm.strict_ext _ _ h.1 (by simp) fun x => ?_
  rw [h.2 x, hf]
  by_cases hx : x = [97]
  · subst hx; simp [upd]
  · simp [upd, hx]
theorem reads (b : List UInt8) (off n : Nat) (hb : off + n ≤ b.length) (s : S) (h : OneO b s) :
    OneO b (again (askOf fun s => s.ask [] (S.getF [97] off n)) 3 (s, [])).st.1 ∧ (((again (askOf fun s => s.ask [] (S.getF [97] off n)) 3 (s, [])).r = none ∧ (again (askOf fun s => s.ask [] (S.getF [97] off n)) 3 (s, [])).st.2 = (b.drop off).take n) ∨ ((again (askOf fun s => s.ask [] (S.getF [97] off n)) 3 (s, [])).r = some 10 ∧ (again (askOf fun s => s.ask [] (S.getF [97] off n)) 3 (s, [])).st.2 = [])) :=
  read_again (I := OneO b) (V := fun v => v = (b.drop off).take n) (fun _ h => h.took) (fun t ht => by
    unfold S.getF
    rw [ht.at_]
    have hc : ¬ ((off : Int) < 0 ∨ (n : Int) < 0 ∨ (b.length : Int) - off < n) := by omega
    simp only
    rw [if_neg hc]
    exact ⟨rfl, by simp, ht⟩) 3 none (s, []) h (.inl (by omega))
theorem lists (b : List UInt8) (s : S) (h : OneO b s) :
    OneO b (again (askOf fun s => s.ask none S.listF) 3 (s, none)).st.1 ∧ (((again (askOf fun s => s.ask none S.listF) 3 (s, none)).r = none ∧ ∃ t, (again (askOf fun s => s.ask none S.listF) 3 (s, none)).st.2 = some t ∧ OneO b t) ∨ ((again (askOf fun s => s.ask none S.listF) 3 (s, none)).r = some 10 ∧ (again (askOf fun s => s.ask none S.listF) 3 (s, none)).st.2 = none)) :=
  read_again (I := OneO b) (V := fun v => ∃ t, v = some t ∧ OneO b t) (fun _ h => h.took) (fun t ht => ⟨rfl, ⟨t, rfl, ht⟩, ht⟩) 3 none (s, none) h (.inl (by omega))
theorem list_one (b : List UInt8) {s : S} (h : OneO b s) {l : List Nm} (hl : ListsS s.objs l) : l = [[97]] := lists_oneS h.objs hl
theorem under_one (b : List UInt8) {s : S} (h : OneO b s) {l : List Nm} (hl : ListsS (s.under []) l) : l = [[97]] := by rw [under_all] at hl; exact lists_oneS h.objs hl
theorem heads (b : List UInt8) (s : S) (h : OneO b s) :
    OneO b (again (askOf fun s => s.ask [] (S.headF [97])) 3 (s, [])).st.1 ∧ (((again (askOf fun s => s.ask [] (S.headF [97])) 3 (s, [])).r = none ∧ (again (askOf fun s => s.ask [] (S.headF [97])) 3 (s, [])).st.2 = b) ∨ ((again (askOf fun s => s.ask [] (S.headF [97])) 3 (s, [])).r = some 10 ∧ (again (askOf fun s => s.ask [] (S.headF [97])) 3 (s, [])).st.2 = [])) :=
  read_again (I := OneO b) (V := fun v => v = b) (fun _ h => h.took) (fun t ht => by
    unfold S.headF
    rw [ht.at_]
    exact ⟨rfl, rfl, ht⟩) 3 none (s, []) h (.inl (by omega))
end Go.Proofs.YtlflijhnlcdakaaGreatDoor.St
