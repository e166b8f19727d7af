/-
  A store's Get and Head.
  A store's Head.
-/
import Derived.Test.YthlclknbehfloaaDoorT4
import Derived.Test.YthlclknbehfloaaDoorT5
namespace Go.Proofs.YthlclknbehfloaaDoor
open Go.RowKit Go.Maps

/-- What is at a name, as a look-up tells it. -/
theorem StoreL.lookObj {w : World} {sb ob ub : Nat} {sv : Value} {ov : St.Nm → Option Value} {pb : Int → Nat} {pv : Int → Int → Option Value} {s : St.S} {m : Nat} {S D : Nat → Prop} (h : StoreL w sb ob ub sv ov pb pv s m S D) (k : List UInt8) (hk : k.length ≤ 9223372036854775807) :
    ∃ A c, (∀ q, (Instr.lookup 56 (.map (some ob)) (encStr k) true).run Tryd.prog (w.drewN q) = .ok (.tuple #[.slice A ((s.objs k).getD []).length c, .bool (s.objs k).isSome]) (w.drewN q)) ∧ ((s.objs k).getD []).length ≤ 1000000000 ∧ Arg w A c ((s.objs k).getD []) := by
  have hl := fun q => (show MapS (w.drewN q) ob m ov from h.objs.same rfl).look strK map_objs (zero_bytes (w.drewN q)) k (strKey hk)
  have hb := h.oat k
  cases h1 : ov k with
  | none =>
    cases h2 : s.objs k with
    | none => rw [h1] at hl; exact ⟨none, 0, hl, by simp, ⟨by simp, by omega, fun _ => rfl, .inl rfl⟩⟩
    | some b => rw [h1, h2] at hb; exact hb.elim
  | some v =>
    cases h2 : s.objs k with
    | none => rw [h1, h2] at hb; exact hb.elim
    | some b =>
      rw [h1, h2] at hb
      obtain ⟨A, c, rfl, q1, q2, q3, q4, q5, _⟩ := hb
      rw [h1] at hl
      exact ⟨A, c, hl, q3, ⟨q1, q2, q4, q5⟩⟩

def St.S.get (s : St.S) (k : St.Nm) (off n : Int) : (List UInt8 × Option Nat) × St.S := s.ask [] (St.S.getF k off n)
theorem St.get_quiet (k : St.Nm) (off n : Int) : St.Quiet (St.S.getF k off n) := fun t => by unfold St.S.getF; split; exact ⟨rfl, rfl⟩; split <;> exact ⟨rfl, rfl⟩
end Go.Proofs.YthlclknbehfloaaDoor

namespace Go.Proofs.YthlclknbehfloaaDoor
open Go.RowKit Go.Maps Crc

set_option maxRecDepth 100000 in
set_option maxHeartbeats 1000000 in
/-- The closure of Head. -/
theorem stHead1_any {w : World} {sb ob ub : Nat} {sv : Value} {ov : St.Nm → Option Value} {pb : Int → Nat} {pv : Int → Int → Option Value} {s : St.S} {m : Nat} {S D : Nat → Prop} (h : StoreL w sb ob ub sv ov pb pv s m S D) (p : Nat → Addr)
    (hs6 : w.cell? ⟨1, 0, none⟩ = some (errV (p 6))) (xb nb : Nat) (k : List UInt8) (hk : k.length ≤ 1000000000)
    (c1 : w.cell? ⟨xb, 0, none⟩ = some (.pointer (some ⟨sb, 0, none⟩))) (c2 : w.cell? ⟨nb, 0, none⟩ = some (encStr k)) :
    Calls Tryd.prog 44 #[.pointer (some ⟨xb, 0, none⟩), .pointer (some ⟨nb, 0, none⟩)] w fun e w' => ∃ A c, e = .returned (.tuple #[.slice A (s.headF k).1.1.length c, errR p (s.headF k).1.2]) ∧ Arg w' A c (s.headF k).1.1 ∧ (s.headF k).1.1.length ≤ 1000000000 ∧ (s.headF k).2 = s ∧ Below w.heap.size w w' := by
  obtain ⟨A, c, hl, hle, ha⟩ := h.lookObj k (by omega)
  have b0 : w.cell? ⟨sb, 0, none⟩ = some (.map (some ob)) := box_cell h.box 0
  unfold errV at hs6
  obtain ⟨r, hr⟩ : ∃ r, s.headF k = r := ⟨_, rfl⟩
  rw [hr]
  unfold St.S.headF at hr
  clear h
  cases ho : s.objs k with
  | none =>
    rw [ho] at hl hr
    subst hr
    simp only [Option.getD_none, Option.isSome_none] at hl
    clear hle ha
    go_enter Tryd.func44, Tryd.ntmps44
    go_wp2_with fail
    go_quiet (fail)
    go_wp2_with fail
    go_quiet (fail)
    go_wp2_with fail
    go_returns
    exact ⟨none, 0, by first | rfl | trivial, ⟨by simp, by omega, fun _ => rfl, .inl rfl⟩, by simp, by trivial, below_drewN (below_drewN (Below.refl _ _) _) _⟩
  | some b =>
    rw [ho] at hl hle ha hr
    simp only at hr
    subst hr
    simp only [Option.getD_some, Option.isSome_some] at hl hle ha
    clear ho
    have HA := hide ha
    simp only
    generalize hbl : b.length = L at *
    have HLE := hide hle
    clear ha hbl hle
    go_enter Tryd.func44, Tryd.ntmps44
    go_wp2_with fail
    go_quiet (fail)
    go_wp2_with fail
    go_returns
    exact ⟨A, c, by first | rfl | trivial, HA.out.drewN _, HLE.out, by trivial, below_drewN (Below.refl _ _) _⟩

theorem readsAll_one (w : World) (A : Option Addr) (c : Nat) (a : List UInt8) (n : Nat) (hn : a.length = n) (ha : Arg w A c a) (hl : n ≤ 1000000000) : ReadsAll (w.alloc (.cells #[.slice A n c] 22)) (some ⟨w.heap.size, 0, none⟩) [⟨A, c, a⟩] := by
  subst hn
  refine .inr ⟨_, _, rfl, by simp, fun k hk => ?_⟩
  obtain rfl : k = 0 := by simpa using hk
  refine ⟨?_, by simp; omega, ha.reads.alloc _⟩
  rw [World.cell?_alloc_mark]
  rfl
theorem flat_one (A : Option Addr) (c : Nat) (a : List UInt8) : flat [⟨A, c, a⟩] = a := by simp [flat]
theorem StGo.grow {S D S' D' : Nat → Prop} {w w1 w2 : World} (h : StGo S D S' D' w w1) (hb : Below w1.heap.size w1 w2) : StGo S D S' D' w w2 := by
  have hz := hb.size
  exact ⟨h.chg.then (Chg.of_below hb), fun k hk => by rcases h.s k hk with h | h; exact .inl h; exact .inr (by omega), fun k hk => by rcases h.d k hk with h | h; exact .inl h; exact .inr (by omega)⟩
def St.S.head (s : St.S) (k : St.Nm) : (List UInt8 × Option Nat) × St.S := s.ask [] (St.S.headF k)
theorem St.head_quiet (k : St.Nm) : St.Quiet (St.S.headF k) := fun t => by unfold St.S.headF; split <;> exact ⟨rfl, rfl⟩
set_option maxRecDepth 100000 in
set_option maxHeartbeats 1000000 in
theorem StS.head {w0 w : World} {S D : Nat → Prop} {sb n : Nat} {s : St.S} (h : StS w0 S D sb s n w) (p : Nat → Addr) (hs : Sents w0 p) (hn : n ≤ 1000000) (ht : Tabs w0) (k : List UInt8) (hk : k.length ≤ 100000) :
    Calls Tryd.prog 16 #[.pointer (some ⟨sb, 0, none⟩), encStr k] w fun e w' => e = .returned (.tuple #[.int .i64 ((s.head k).1.1.length : Int), .int .u32 (U (Crc.sum (s.head k).1.1)), errR p (s.head k).1.2]) ∧ StS w0 S D sb (s.head k).2 (n + 1) w' ∧ Chg S w w' := by
  obtain ⟨W, hW⟩ : ∃ W, W = ((w.alloc (.cells #[.pointer (some ⟨sb, 0, none⟩)] 25)).alloc (.cells #[encStr k] 9)) := ⟨_, rfl⟩
  have hb : Below w.heap.size w W := hW ▸ balloc (balloc (Below.refl _ _) _) _
  have q0 : W.cell? ⟨w.heap.size, 0, none⟩ = some (.pointer (some ⟨sb, 0, none⟩)) := by
    rw [hW, World.cell?_alloc_lt _ _ _ (by simp <;> omega), World.cell?_alloc_mark]; rfl
  have q1 : W.cell? ⟨w.heap.size + 1, 0, none⟩ = some (encStr k) := by
    have e : (w.alloc (.cells #[.pointer (some ⟨sb, 0, none⟩)] 25)).heap.size = w.heap.size + 1 := by simp
    rw [hW, ← e, World.cell?_alloc_mark]; rfl
  have hbW := h.below.trans (hb.mono h.below.size)
  have hsb : sb < w.heap.size := by obtain ⟨_, _, _, _, _, _, hl⟩ := h.st; exact hl.lt _ (.inl hl.msb)
  have hSg : ∀ j, j < 19 → ¬ S (gs.getD j 0) := fun j hj hS => by have := h.lo _ (.inl hS); have := hs.size j hj; omega
  have hsbg : ∀ j, j < 19 → gs.getD j 0 ≠ sb := fun j hj e => by obtain ⟨_, _, _, _, _, _, hl⟩ := h.st; exact hSg j hj (e ▸ hl.msb)
  have hmsb : S sb := by obtain ⟨_, _, _, _, _, _, hl⟩ := h.st; exact hl.msb
  have HB := hide (ansCallB (h.st.below hb) ⟨h.calls.1, by have := h.calls.2; omega⟩ ⟨h.failed.1, by have := h.failed.2; omega⟩ p (errCell hs hbW 10 (by omega)) (hSg 10 (by omega)) 44 #[.pointer (some ⟨w.heap.size, 0, none⟩), .pointer (some ⟨w.heap.size + 1, 0, none⟩)] (enters_of Tryd.func44 (by kernel_rfl) rfl) ([] : List UInt8) (St.S.headF k) (fun a v W => ∃ A c, v = .slice A a.length c ∧ Arg W A c a ∧ a.length ≤ 1000000000) (fun a v W W' ⟨A, c, h1, h2, h3⟩ hb => ⟨A, c, h1, h2.below hb (Nat.le_refl _), h3⟩) (fun W => ⟨none, 0, rfl, ⟨by simp, by omega, fun _ => rfl, .inl rfl⟩, by simp⟩) (fun t W' => IsStore W' sb t n S D ∧ Chg S W W') (fun w1 hc hi => ⟨hi, hc.mono fun k e => e ▸ hmsb⟩) (fun t W W' hh hb => ⟨hh.1.below hb, hh.2.then (Chg.of_below hb)⟩) (fun t W hh => hh.2)
    fun w1 hc1 h1 => by
      obtain ⟨ob, ub, sv, ov, pb, pv, h1⟩ := h1
      refine (stHead1_any h1 p (hc1.cell (errCell hs hbW 6 (by omega)) (hsbg 6 (by omega))) _ _ k (by omega) (hc1.cell q0 (by show ¬ (w.heap.size = sb); omega)) (hc1.cell q1 (by show ¬ (w.heap.size + 1 = sb); omega))).mono ?_
      rintro e w2 ⟨A, c, he, ha, hl, hst, hb2⟩
      refine ⟨A, _, c, he, ⟨A, c, rfl, ha, hl⟩, ?_⟩
      rw [hst]
      exact ⟨IsStore.below ⟨_, _, _, _, _, _, h1⟩ hb2, (hc1.mono fun k e => e ▸ hmsb).then (Chg.of_below hb2)⟩)
  have HP : Hid (∀ w', IsStore w' sb (s.ask ([] : List UInt8) (St.S.headF k)).2 n S D ∧ Chg S W w' → StS w0 S D sb (s.ask ([] : List UInt8) (St.S.headF k)).2 (n + 1) w' ∧ Chg S w w') := hide (fun w' hp => by
    have hq := St.ask_num (St.head_quiet k) s ([] : List UInt8)
    have := h.calls; have := h.failed
    have hch := (Chg.of_below hb).then hp.2
    exact ⟨h.read hp.1 hch ⟨by omega, by omega⟩ ⟨by omega, by omega⟩, hch⟩)
  have HW := hide hW
  have HT := hide (fun W (hW : Below w0.heap.size w0 W) => ht.below hW (Nat.le_refl _))
  clear h hs hW hb q0 q1 hbW hSg hsbg hsb ht hmsb
  go_enter Tryd.func16, Tryd.ntmps16
  go_wp2_with (first
    | (go_at_call 43; rw [← HW.out]; refine HB.out.mono ?_; rintro e w1 ⟨A', x, c', rfl, ⟨A, c, hv, ha, hlen⟩, hp⟩; injection hv with hv1 hv2 hv3; subst hv1 hv2 hv3; have H := hide (HP.out _ hp); have HA := hide ha; have HLEN := hide hlen; clear hp ha hlen; generalize hx : (s.ask [] (St.S.headF k)).1.1 = a at *; generalize hal : a.length = al at *; have HAL := hide hal; have HX := hide hx; clear hal hx)
    | (go_at_call 45; refine (of_at _ 1 1 [⟨A', c', a⟩] _ rfl (by omega) (readsAll_one w1 A' c' a al HAL.out HA.out (by have := HLEN.out; omega)) (HT.out _ (H.out.1.below.trans ((balloc (Below.refl _ _) _).mono H.out.1.below.size)))).mono ?_; rintro e w2 ⟨rfl, q, hq⟩; have HQ := hide hq; clear hq; rw [flat_one])
    | fail)
  go_returns
  refine ⟨by rw [show s.head k = s.ask [] (St.S.headF k) from rfl, HX.out, HAL.out]; rfl, ?_⟩
  have hb2 : Below w1.heap.size w1 w2 := by rw [HQ.out]; exact below_drewN (balloc (Below.refl _ _) _) _
  exact ⟨H.out.1.grow hb2, H.out.2.then (Chg.of_below hb2)⟩
end Go.Proofs.YthlclknbehfloaaDoor
