/-
  A store's Delete.
  A client's calls that tell an error alone: Part, Delete, Abort, and Complete as far as it asks the store for it.
  A client's Start.
  A client's Head.
  A client's Complete.
-/
import Derived.Test.YthlclknbehfloaaDoorT9
import Derived.Test.YthlclknbehfloaaDoorT7
import Derived.Test.YthlclknbehfloaaDoorU1
namespace Go.Proofs.YthlclknbehfloaaDoor
open Go.RowKit Go.Maps

section
variable {w : World} {sb ob ub : Nat} {sv : Value} {ov : St.Nm → Option Value} {pb : Int → Nat} {pv : Int → Int → Option Value} {s : St.S} {m : Nat} {S D : Nat → Prop}
/-- An object goes. -/
theorem StoreL.dropObj {w2 : World} (h : StoreL w sb ob ub sv ov pb pv s m S D) {k : List UInt8} (hm : MapS w2 ob m (updV ov k none)) (hg : w.grownBy w2 (some ob)) (hz : w2.heap.size = w.heap.size) :
    StoreL w2 sb ob ub sv (updV ov k none) pb pv { s with objs := St.upd s.objs k none } m S D := by
  have hoth : ∀ g, g ≠ ob → g < w.heap.size → w2.heap[g]? = w.heap[g]? := fun g hne hl => hg.block g hl (by intro e; injection e with e; exact hne e)
  have hD := fun (v : Value) (l : List UInt8) (hd : DataAt w D v l) => hd.kept (w' := w2) (by omega) fun g hx hl => hoth g (fun e => h.sd _ h.mob (e ▸ hx)) hl
  have hmp : ∀ {κ : Type} {kt : TypeId} {mk : κ → Lit} {x : Nat} {f : κ → Option Value}, MapV kt mk w x m f → x ≠ ob → MapV kt mk w2 x m f := fun hmap hne => hmap.same (hoth _ hne hmap.lt)
  have hsb : sb ≠ ob := fun e => by
    obtain ⟨es, clock, he⟩ := h.objs.isMap
    rw [← e, h.box] at he; cases he
  refine { box := (hoth _ hsb (h.lt _ (.inl h.msb))).trans h.box, objs := hm, oat := fun x => ?_, ups := hmp h.ups h.ne.symm, parts := fun i u hu => ?_, inj := h.inj, ne := h.ne, scr := h.scr.kept fun g hS hl ⟨cs, hcs⟩ => hoth g (fun e => ?_) hl, msb := h.msb, mob := h.mob, mub := h.mub, sd := h.sd, lt := fun g hx => by rw [hz]; exact h.lt g hx, keys := fun x hx => h.keys x (fun e => hx (by show St.upd s.objs k none x = none; unfold St.upd; split; rfl; exact e)), last := h.last }
  · by_cases e : x = k
    · subst e; simp only [updV, St.upd, if_true]; trivial
    · simp only [updV, St.upd, if_neg e]; exact (h.oat x).imp hD
  · obtain ⟨p1, p2, p3, p4, p5, p6, p7, p8⟩ := h.parts i u hu
    exact ⟨hmp p1 p4, fun n => (p2 n).imp hD, p3, p4, p5, p6, p7, p8⟩
  · subst e
    obtain ⟨es, clock, he⟩ := h.objs.isMap
    rw [hcs] at he; cases he
end

set_option maxRecDepth 100000 in
set_option maxHeartbeats 1000000 in
/-- The closure of Delete. -/
theorem stDel1_any (p : Nat → Addr) {w : World} {sb ob ub : Nat} {sv : Value} {ov : St.Nm → Option Value} {pb : Int → Nat} {pv : Int → Int → Option Value} {s : St.S} {m : Nat} {S D : Nat → Prop} (h : StoreL w sb ob ub sv ov pb pv s m S D)
    (hs6 : w.cell? ⟨1, 0, none⟩ = some (errV (p 6))) (xb ib : Nat) (k : List UInt8) (hk : k.length ≤ 9223372036854775807)
    (c1 : w.cell? ⟨xb, 0, none⟩ = some (.pointer (some ⟨sb, 0, none⟩))) (c2 : w.cell? ⟨ib, 0, none⟩ = some (encStr k)) :
    Calls Tryd.prog 73 #[.pointer (some ⟨xb, 0, none⟩), .pointer (some ⟨ib, 0, none⟩)] w fun e w' => e = .returned (errR p (s.delF k).1.2) ∧ StPost w sb (s.delF k).2 (m + 1) S D w' := by
  obtain ⟨A, c, hlk, -, -⟩ := h.lookObj k hk
  have b1 : w.cell? ⟨sb, 0, none⟩ = some (.map (some ob)) := box_cell h.box 0
  unfold errV at hs6
  have HH := hide h
  obtain ⟨r, hr⟩ : ∃ r, s.delF k = r := ⟨_, rfl⟩
  rw [hr]
  unfold St.S.delF at hr
  have HL := hide hlk
  cases hu : s.objs k with
  | none =>
    rw [hu] at hr hlk
    subst hr
    simp only [Option.getD_none, Option.isSome_none, List.length_nil] at hlk
    have d3 : (encStr k) = .string ⟨k.toArray⟩ := rfl
    rw [d3] at c2 hlk
    clear h hu d3 HL
    go_enter Tryd.func73, Tryd.ntmps73
    go_wp2_with fail
    go_quiet (fail)
    go_wp2_with fail
    go_ret
    exact ⟨rfl, (StPost.of_same (IsStore.below ⟨_, _, _, _, _, _, HH.out⟩ (below_drewN (Below.refl _ _) _)) (Chg.of_below (below_drewN (Below.refl _ _) _))).mono (Nat.le_succ _)⟩
  | some u =>
    rw [hu] at hr hlk
    simp only at hr
    simp only [Option.getD_some, Option.isSome_some] at hlk
    have d3 : (encStr k) = .string ⟨k.toArray⟩ := rfl
    have HK := hide hk
    rw [d3] at c2 hlk
    subst hr
    clear h hu d3 HL hs6
    go_enter Tryd.func73, Tryd.ntmps73
    go_wp2_with fail
    go_quiet (fail)
    rename_i nq
    have x1 : (w.drewN nq).cell? ⟨xb, 0, none⟩ = some (.pointer (some ⟨sb, 0, none⟩)) := c1
    have x2 : (w.drewN nq).cell? ⟨ib, 0, none⟩ = some (.string ⟨k.toArray⟩) := c2
    have x3 : (w.drewN nq).cell? ⟨sb, 0, none⟩ = some (.map (some ob)) := b1
    clear c1 c2 b1 hlk
    generalize hW1 : w.drewN nq = W1 at *
    have hb1 : Below w.heap.size w W1 := hW1 ▸ below_drewN (Below.refl _ _) nq
    have HB1 := hide hb1
    have HH1 := hide (HH.out.kept (w' := W1) hb1.size fun g _ hl => hb1.block g hl)
    clear hW1 hb1
    go_wp2_with fail
    have HHQ := hide (HH1.out.kept (w' := W1.drew) (Nat.le_refl _) fun _ _ _ => rfl)
    obtain ⟨w5, hdel, hm5, hg5, hz5⟩ := HHQ.out.objs.del strK map_objs k (strKey HK.out) (strInj k) 0
    have HF := hide (HHQ.out.dropObj hm5 hg5 hz5)
    have HC5 : Hid (Chg S w w5) := hide (((Chg.of_below HB1.out).then (Chg.of_below (below_drewN (Below.refl _ _) 1))).then (Chg.of_grown hg5 fun g e => by injection e with e; exact e ▸ HH.out.mob))
    clear hm5 hg5 hz5
    go_region
    go_wp2_with fail
    go_ret
    exact ⟨rfl, (StPost.of_same ⟨_, _, _, _, _, _, HF.out⟩ HC5.out).mono (Nat.le_succ _)⟩

def St.S.del (s : St.S) (k : St.Nm) : (Unit × Option Nat) × St.S := s.ask () (St.S.delF k)
theorem St.del_quiet (k : St.Nm) : St.Quiet (St.S.delF k) := fun t => by unfold St.S.delF; split <;> exact ⟨rfl, rfl⟩
set_option maxRecDepth 100000 in
set_option maxHeartbeats 1000000 in
theorem StS.del {w0 w : World} {S D : Nat → Prop} {sb n : Nat} {s : St.S} (h : StS w0 S D sb s n w) (p : Nat → Addr) (hs : Sents w0 p) (hn : n ≤ 1000000) (k : List UInt8) (hk : k.length ≤ 100000) :
    Calls Tryd.prog 57 #[.pointer (some ⟨sb, 0, none⟩), encStr k] w fun e w' => e = .returned (errR p (s.del k).1.2) ∧ ∃ S' D', StS w0 S' D' sb (s.del k).2 (n + 1) w' ∧ StGo S D S' D' w w' := by
  obtain ⟨W, hW⟩ : ∃ W, W = ((w.alloc (.cells #[.pointer (some ⟨sb, 0, none⟩)] 25)).alloc (.cells #[encStr k] 9)) := ⟨_, rfl⟩
  have hb : Below w.heap.size w W := hW ▸ balloc (balloc (Below.refl _ _) _) _
  have q0 : W.cell? ⟨w.heap.size, 0, none⟩ = some (.pointer (some ⟨sb, 0, none⟩)) := by
    rw [hW, World.cell?_alloc_lt _ _ _ (by simp <;> omega), World.cell?_alloc_mark]; rfl
  have q1 : W.cell? ⟨w.heap.size + 1, 0, none⟩ = some (encStr k) := by
    have e : (w.alloc (.cells #[.pointer (some ⟨sb, 0, none⟩)] 25)).heap.size = w.heap.size + 1 := by simp
    rw [hW, ← e, World.cell?_alloc_mark]; rfl
  have hbW := h.below.trans (hb.mono h.below.size)
  have hsb : sb < w.heap.size := by obtain ⟨_, _, _, _, _, _, hl⟩ := h.st; exact hl.lt _ (.inl hl.msb)
  have hSg : ∀ j, j < 19 → ¬ S (gs.getD j 0) := fun j hj hS => by have := h.lo _ (.inl hS); have := hs.size j hj; omega
  have hsbg : ∀ j, j < 19 → gs.getD j 0 ≠ sb := fun j hj e => by obtain ⟨_, _, _, _, _, _, hl⟩ := h.st; exact hSg j hj (e ▸ hl.msb)
  have HB := hide (bareCall (h.st.below hb) ⟨h.calls.1, by have := h.calls.2; omega⟩ ⟨h.failed.1, by have := h.failed.2; omega⟩ p (errCell hs hbW 10 (by omega)) (hSg 10 (by omega)) 73 #[.pointer (some ⟨w.heap.size, 0, none⟩), .pointer (some ⟨w.heap.size + 1, 0, none⟩)] (enters_of Tryd.func73 (by kernel_rfl) rfl) (St.S.delF k)
    fun w1 hc1 h1 => by
      obtain ⟨ob, ub, sv, ov, pb, pv, h1⟩ := h1
      exact stDel1_any p h1 (hc1.cell (errCell hs hbW 6 (by omega)) (hsbg 6 (by omega))) _ _ k (by omega) (hc1.cell q0 (by show ¬ (w.heap.size = sb); omega)) (hc1.cell q1 (by show ¬ (w.heap.size + 1 = sb); omega)))
  have HP : Hid (∀ w', StPost W sb (s.ask () (St.S.delF k)).2 (n + 1) S D w' → ∃ S' D', StS w0 S' D' sb (s.ask () (St.S.delF k)).2 (n + 1) w' ∧ StGo S D S' D' w w') := hide (fun w' hp => by
    have hq := St.ask_num (St.del_quiet k) s ()
    have := h.calls; have := h.failed
    exact h.post (hp.ahead (Chg.of_below hb)) ⟨by omega, by omega⟩ ⟨by omega, by omega⟩)
  have HW := hide hW
  clear h hs hW hb q0 q1 hbW hSg hsbg hsb
  go_enter Tryd.func57, Tryd.ntmps57
  go_wp2_with (first
    | (go_at_call 33; rw [← HW.out]; refine HB.out.mono ?_; rintro e w1 ⟨rfl, hp⟩; have H := hide (HP.out _ hp); clear hp)
    | fail)
  go_ret
  exact ⟨rfl, H.out⟩
end Go.Proofs.YthlclknbehfloaaDoor

namespace Go.Proofs.YthlclknbehfloaaDoor
open Go.RowKit Go.Maps

theorem St.part_in {E : Nat → Prop} (h4 : E 4) (h6 : E 6) (id l : Int) (b : List UInt8) (t : St.S) (j : Nat) (h : (St.S.partF id l b t).1.2 = some j) : E j := by
  unfold St.S.partF at h
  split at h
  · simp at h; exact h ▸ h6
  · split at h <;> simp at h; exact h ▸ h4
theorem St.del_in {E : Nat → Prop} (h6 : E 6) (k : St.Nm) (t : St.S) (j : Nat) (h : (St.S.delF k t).1.2 = some j) : E j := by
  unfold St.S.delF at h; split at h <;> simp at h; exact h ▸ h6
theorem St.abort_in {E : Nat → Prop} (h6 : E 6) (id : Int) (t : St.S) (j : Nat) (h : (St.S.abortF id t).1.2 = some j) : E j := by
  unfold St.S.abortF at h; split at h <;> simp at h; exact h ▸ h6
theorem St.comp_in {E : Nat → Prop} (h4 : E 4) (h6 : E 6) (id l : Int) (t : St.S) (j : Nat) (h : (St.S.compF id l t).1.2 = some j) : E j := by
  unfold St.S.compF at h
  split at h
  · simp at h; exact h ▸ h6
  · split at h
    · simp at h; exact h ▸ h4
    · split at h <;> simp at h; exact h ▸ h4

set_option maxRecDepth 100000 in
set_option maxHeartbeats 1000000 in
/-- The closure of Part. -/
theorem caPart1_any {w0 w : World} {S D : Nat → Prop} {sb cb n : Nat} {s : St.S} (h : StS w0 S D sb s n w) (c0 : w.cell? ⟨cb, 0, none⟩ = some (.pointer (some ⟨sb, 0, none⟩))) (p : Nat → Addr) (hs : Sents w0 p) (hn : n ≤ 1000000) (xc x0 x1 x2 : Nat) (id : Int) (hid : -9223372036854775808 ≤ id ∧ id ≤ 9223372036854775807) (l : Int) (hl : -9223372036854775808 ≤ l ∧ l ≤ 9223372036854775807) (A : Option Addr) (L c : Nat) (b : List UInt8) (ha : Arg w A c b) (hL : b.length = L) (hL2 : L ≤ 1000000000) (hA : ∀ x o, A = some ⟨x, o, none⟩ → b ≠ [] → ¬ S x)
    (c1 : w.cell? ⟨xc, 0, none⟩ = some (.pointer (some ⟨cb, 0, none⟩))) (c2 : w.cell? ⟨x0, 0, none⟩ = some (.int .i64 id)) (c3 : w.cell? ⟨x1, 0, none⟩ = some (.int .i64 l)) (c4 : w.cell? ⟨x2, 0, none⟩ = some (.slice A L c)) :
    Calls Tryd.prog 53 #[.pointer (some ⟨xc, 0, none⟩), .pointer (some ⟨x0, 0, none⟩), .pointer (some ⟨x1, 0, none⟩), .pointer (some ⟨x2, 0, none⟩)] w fun e w' => e = .returned (errR p (s.part id l b).1.2) ∧ ∃ S' D', StS w0 S' D' sb (s.part id l b).2 (n + 1) w' ∧ StGo S D S' D' w w' := by
  have hd : Below w.heap.size w w.drew := (Below.refl w.heap.size w).drew
  have HP := hide (StS.part (h.grow hd) p hs hn id hid l hl A L c b (ha.below hd (Nat.le_refl _)) hL hL2 hA)
  clear h hs hn hd hid hl ha hL hL2 hA
  go_enter Tryd.func53, Tryd.ntmps53
  go_wp2_with fail
  go_still_tail 7, (by kernel_rfl)
  change wpList _ _ _ _ _ w.drew
  go_wp2_with (first
    | (go_at_call 54; refine HP.out.mono ?_; rintro e w2 ⟨rfl, S', D', h1, h2⟩; have H1 := hide h1; have H2 := hide h2; clear h1 h2)
    | fail)
  go_ret
  exact ⟨rfl, S', D', H1.out, H2.out.drew⟩

/-- Part asked again, in the boxes of the call. -/
theorem caPart_again {w0 w : World} {S D : Nat → Prop} {sb cb t n : Nat} {a : Int} {s : St.S} (h : CaS w0 S D sb cb t a s n w) (p : Nat → Addr) (hs : Sents w0 p) (ht : 1 ≤ t ∧ t ≤ 8) (hn : n ≤ 900000) (id : Int) (hid : -9223372036854775808 ≤ id ∧ id ≤ 9223372036854775807) (l : Int) (hl : -9223372036854775808 ≤ l ∧ l ≤ 9223372036854775807) (A : Option Addr) (L c : Nat) (b : List UInt8) (ha : Arg w A c b) (hL : b.length = L) (hL2 : L ≤ 1000000000) (hA : ∀ x o, A = some ⟨x, o, none⟩ → b ≠ [] → ¬ S x ∧ ¬ x = cb) (W : World) (hW : W = (((w.alloc (.cells #[.pointer (some ⟨cb, 0, none⟩)] 46)).alloc (.cells #[.int .i64 id] 3)).alloc (.cells #[.int .i64 l] 3)).alloc (.cells #[.slice A L c] 22)) :
    Below w.heap.size w W ∧ Calls Tryd.prog 50 #[.pointer (some ⟨cb, 0, none⟩), .func (.func 53) #[] #[.pointer (some ⟨w.heap.size, 0, none⟩), .pointer (some ⟨w.heap.size + 1, 0, none⟩), .pointer (some ⟨w.heap.size + 2, 0, none⟩), .pointer (some ⟨w.heap.size + 3, 0, none⟩)]] W fun e w' => e = .returned (.tuple #[.bool (St.again (St.bareOf fun s => s.ask () (St.S.partF id l b)) t s).doubt, errR p (St.again (St.bareOf fun s => s.ask () (St.S.partF id l b)) t s).r]) ∧ 
      ∃ S' D', CaS w0 S' D' sb cb t (a + (St.again (St.bareOf fun s => s.ask () (St.S.partF id l b)) t s).k) (St.again (St.bareOf fun s => s.ask () (St.S.partF id l b)) t s).st (n + t) w' ∧ CaGo S D (fun k => k = cb) S' D' W w' := by
  have hb : Below w.heap.size w W := hW ▸ balloc (balloc (balloc (balloc (Below.refl _ _) _) _) _) _
  have q0 : W.cell? ⟨w.heap.size, 0, none⟩ = some (.pointer (some ⟨cb, 0, none⟩)) := by
    have e : w.heap.size = w.heap.size := by simp
    rw [hW, World.cell?_alloc_lt _ _ _ (by simp <;> omega), World.cell?_alloc_lt _ _ _ (by simp <;> omega), World.cell?_alloc_lt _ _ _ (by simp <;> omega), ← e, World.cell?_alloc_mark]; rfl
  have q1 : W.cell? ⟨w.heap.size + 1, 0, none⟩ = some (.int .i64 id) := by
    have e : (w.alloc (.cells #[.pointer (some ⟨cb, 0, none⟩)] 46)).heap.size = w.heap.size + 1 := by simp
    rw [hW, World.cell?_alloc_lt _ _ _ (by simp <;> omega), World.cell?_alloc_lt _ _ _ (by simp <;> omega), ← e, World.cell?_alloc_mark]; rfl
  have q2 : W.cell? ⟨w.heap.size + 2, 0, none⟩ = some (.int .i64 l) := by
    have e : ((w.alloc (.cells #[.pointer (some ⟨cb, 0, none⟩)] 46)).alloc (.cells #[.int .i64 id] 3)).heap.size = w.heap.size + 2 := by simp
    rw [hW, World.cell?_alloc_lt _ _ _ (by simp <;> omega), ← e, World.cell?_alloc_mark]; rfl
  have q3 : W.cell? ⟨w.heap.size + 3, 0, none⟩ = some (.slice A L c) := by
    have e : (((w.alloc (.cells #[.pointer (some ⟨cb, 0, none⟩)] 46)).alloc (.cells #[.int .i64 id] 3)).alloc (.cells #[.int .i64 l] 3)).heap.size = w.heap.size + 3 := by simp
    rw [hW, ← e, World.cell?_alloc_mark]; rfl
  have hcl : cb < w.heap.size := (Array.getElem?_eq_some_iff.1 h.box).1
  have hnS : ∀ x, w.heap.size ≤ x → ¬ S x := fun x hx hS => by have := h.st.lt _ (.inl hS); omega
  have haW := ha.below hb (Nat.le_refl _)
  refine ⟨hb, (caBare (E := fun j => j < 19) (by omega) (h.grow hb) hs ht (by omega) 53 #[.pointer (some ⟨w.heap.size, 0, none⟩), .pointer (some ⟨w.heap.size + 1, 0, none⟩), .pointer (some ⟨w.heap.size + 2, 0, none⟩), .pointer (some ⟨w.heap.size + 3, 0, none⟩)] (enters_of Tryd.func53 (by kernel_rfl) rfl)
    (fun s => s.ask () (St.S.partF id l b)) (St.err_in (E := fun j => j < 19) (by omega) () _ (St.part_in (E := fun j => j < 19) (by omega) (by omega) id l b)) (fun _ => True) (fun _ _ => trivial) (fun S1 D1 s1 a1 n1 W1 h1 hok h3 h4 hgo => ?_) trivial).mono fun e w' ⟨he, ho, S', D', h1, h2⟩ => ⟨he, S', D', h1, h2⟩⟩
  have hA1 := haW.stays hgo hA
  exact caPart1_any h3 (box_cell h4 0) p hs (by omega) _ _ _ _ id hid l hl A L c b hA1.1 hL hL2 hA1.2 (hgo.cell q0 (hnS _ (by omega)) (by omega)) (hgo.cell q1 (hnS _ (by omega)) (by omega)) (hgo.cell q2 (hnS _ (by omega)) (by omega)) (hgo.cell q3 (hnS _ (by omega)) (by omega))

set_option maxRecDepth 100000 in
set_option maxHeartbeats 1000000 in
/-- The closure of Delete. -/
theorem caDelete1_any {w0 w : World} {S D : Nat → Prop} {sb cb n : Nat} {s : St.S} (h : StS w0 S D sb s n w) (c0 : w.cell? ⟨cb, 0, none⟩ = some (.pointer (some ⟨sb, 0, none⟩))) (p : Nat → Addr) (hs : Sents w0 p) (hn : n ≤ 1000000) (xc x0 : Nat) (k : List UInt8) (hk : k.length ≤ 100000)
    (c1 : w.cell? ⟨xc, 0, none⟩ = some (.pointer (some ⟨cb, 0, none⟩))) (c2 : w.cell? ⟨x0, 0, none⟩ = some (encStr k)) :
    Calls Tryd.prog 56 #[.pointer (some ⟨xc, 0, none⟩), .pointer (some ⟨x0, 0, none⟩)] w fun e w' => e = .returned (errR p (s.del k).1.2) ∧ ∃ S' D', StS w0 S' D' sb (s.del k).2 (n + 1) w' ∧ StGo S D S' D' w w' := by
  have hd : Below w.heap.size w w.drew := (Below.refl w.heap.size w).drew
  have HP := hide (StS.del (h.grow hd) p hs hn k hk)
  clear h hs hn hd hk
  go_enter Tryd.func56, Tryd.ntmps56
  go_wp2_with fail
  go_still_tail 5, (by kernel_rfl)
  change wpList _ _ _ _ _ w.drew
  go_wp2_with (first
    | (go_at_call 57; refine HP.out.mono ?_; rintro e w2 ⟨rfl, S', D', h1, h2⟩; have H1 := hide h1; have H2 := hide h2; clear h1 h2)
    | fail)
  go_ret
  exact ⟨rfl, S', D', H1.out, H2.out.drew⟩

/-- Delete asked again, in the boxes of the call. -/
theorem caDelete_again {w0 w : World} {S D : Nat → Prop} {sb cb t n : Nat} {a : Int} {s : St.S} (h : CaS w0 S D sb cb t a s n w) (p : Nat → Addr) (hs : Sents w0 p) (ht : 1 ≤ t ∧ t ≤ 8) (hn : n ≤ 900000) (k : List UInt8) (hk : k.length ≤ 100000) (W : World) (hW : W = (w.alloc (.cells #[.pointer (some ⟨cb, 0, none⟩)] 46)).alloc (.cells #[encStr k] 9)) :
    Below w.heap.size w W ∧ Calls Tryd.prog 50 #[.pointer (some ⟨cb, 0, none⟩), .func (.func 56) #[] #[.pointer (some ⟨w.heap.size, 0, none⟩), .pointer (some ⟨w.heap.size + 1, 0, none⟩)]] W fun e w' => e = .returned (.tuple #[.bool (St.again (St.bareOf fun s => s.ask () (St.S.delF k)) t s).doubt, errR p (St.again (St.bareOf fun s => s.ask () (St.S.delF k)) t s).r]) ∧ 
      ∃ S' D', CaS w0 S' D' sb cb t (a + (St.again (St.bareOf fun s => s.ask () (St.S.delF k)) t s).k) (St.again (St.bareOf fun s => s.ask () (St.S.delF k)) t s).st (n + t) w' ∧ CaGo S D (fun k => k = cb) S' D' W w' := by
  have hb : Below w.heap.size w W := hW ▸ balloc (balloc (Below.refl _ _) _) _
  have q0 : W.cell? ⟨w.heap.size, 0, none⟩ = some (.pointer (some ⟨cb, 0, none⟩)) := by
    have e : w.heap.size = w.heap.size := by simp
    rw [hW, World.cell?_alloc_lt _ _ _ (by simp <;> omega), ← e, World.cell?_alloc_mark]; rfl
  have q1 : W.cell? ⟨w.heap.size + 1, 0, none⟩ = some (encStr k) := by
    have e : (w.alloc (.cells #[.pointer (some ⟨cb, 0, none⟩)] 46)).heap.size = w.heap.size + 1 := by simp
    rw [hW, ← e, World.cell?_alloc_mark]; rfl
  have hcl : cb < w.heap.size := (Array.getElem?_eq_some_iff.1 h.box).1
  have hnS : ∀ x, w.heap.size ≤ x → ¬ S x := fun x hx hS => by have := h.st.lt _ (.inl hS); omega
  refine ⟨hb, (caBare (E := fun j => j < 19) (by omega) (h.grow hb) hs ht (by omega) 56 #[.pointer (some ⟨w.heap.size, 0, none⟩), .pointer (some ⟨w.heap.size + 1, 0, none⟩)] (enters_of Tryd.func56 (by kernel_rfl) rfl)
    (fun s => s.ask () (St.S.delF k)) (St.err_in (E := fun j => j < 19) (by omega) () _ (St.del_in (E := fun j => j < 19) (by omega) k)) (fun _ => True) (fun _ _ => trivial) (fun S1 D1 s1 a1 n1 W1 h1 hok h3 h4 hgo => ?_) trivial).mono fun e w' ⟨he, ho, S', D', h1, h2⟩ => ⟨he, S', D', h1, h2⟩⟩
  exact caDelete1_any h3 (box_cell h4 0) p hs (by omega) _ _ k hk (hgo.cell q0 (hnS _ (by omega)) (by omega)) (hgo.cell q1 (hnS _ (by omega)) (by omega))

set_option maxRecDepth 100000 in
set_option maxHeartbeats 1000000 in
/-- The closure of Abort. -/
theorem caAbort1_any {w0 w : World} {S D : Nat → Prop} {sb cb n : Nat} {s : St.S} (h : StS w0 S D sb s n w) (c0 : w.cell? ⟨cb, 0, none⟩ = some (.pointer (some ⟨sb, 0, none⟩))) (p : Nat → Addr) (hs : Sents w0 p) (hn : n ≤ 1000000) (xc x0 : Nat) (id : Int) (hid : -9223372036854775808 ≤ id ∧ id ≤ 9223372036854775807)
    (c1 : w.cell? ⟨xc, 0, none⟩ = some (.pointer (some ⟨cb, 0, none⟩))) (c2 : w.cell? ⟨x0, 0, none⟩ = some (.int .i64 id)) :
    Calls Tryd.prog 58 #[.pointer (some ⟨xc, 0, none⟩), .pointer (some ⟨x0, 0, none⟩)] w fun e w' => e = .returned (errR p (s.abort id).1.2) ∧ ∃ S' D', StS w0 S' D' sb (s.abort id).2 (n + 1) w' ∧ StGo S D S' D' w w' := by
  have hd : Below w.heap.size w w.drew := (Below.refl w.heap.size w).drew
  have HP := hide (StS.abort (h.grow hd) p hs hn id hid)
  clear h hs hn hd hid
  go_enter Tryd.func58, Tryd.ntmps58
  go_wp2_with fail
  go_still_tail 5, (by kernel_rfl)
  change wpList _ _ _ _ _ w.drew
  go_wp2_with (first
    | (go_at_call 14; refine HP.out.mono ?_; rintro e w2 ⟨rfl, S', D', h1, h2⟩; have H1 := hide h1; have H2 := hide h2; clear h1 h2)
    | fail)
  go_ret
  exact ⟨rfl, S', D', H1.out, H2.out.drew⟩

/-- Abort asked again, in the boxes of the call. -/
theorem caAbort_again {w0 w : World} {S D : Nat → Prop} {sb cb t n : Nat} {a : Int} {s : St.S} (h : CaS w0 S D sb cb t a s n w) (p : Nat → Addr) (hs : Sents w0 p) (ht : 1 ≤ t ∧ t ≤ 8) (hn : n ≤ 900000) (id : Int) (hid : -9223372036854775808 ≤ id ∧ id ≤ 9223372036854775807) (W : World) (hW : W = (w.alloc (.cells #[.pointer (some ⟨cb, 0, none⟩)] 46)).alloc (.cells #[.int .i64 id] 3)) :
    Below w.heap.size w W ∧ Calls Tryd.prog 50 #[.pointer (some ⟨cb, 0, none⟩), .func (.func 58) #[] #[.pointer (some ⟨w.heap.size, 0, none⟩), .pointer (some ⟨w.heap.size + 1, 0, none⟩)]] W fun e w' => e = .returned (.tuple #[.bool (St.again (St.bareOf fun s => s.ask () (St.S.abortF id)) t s).doubt, errR p (St.again (St.bareOf fun s => s.ask () (St.S.abortF id)) t s).r]) ∧ 
      ∃ S' D', CaS w0 S' D' sb cb t (a + (St.again (St.bareOf fun s => s.ask () (St.S.abortF id)) t s).k) (St.again (St.bareOf fun s => s.ask () (St.S.abortF id)) t s).st (n + t) w' ∧ CaGo S D (fun k => k = cb) S' D' W w' := by
  have hb : Below w.heap.size w W := hW ▸ balloc (balloc (Below.refl _ _) _) _
  have q0 : W.cell? ⟨w.heap.size, 0, none⟩ = some (.pointer (some ⟨cb, 0, none⟩)) := by
    have e : w.heap.size = w.heap.size := by simp
    rw [hW, World.cell?_alloc_lt _ _ _ (by simp <;> omega), ← e, World.cell?_alloc_mark]; rfl
  have q1 : W.cell? ⟨w.heap.size + 1, 0, none⟩ = some (.int .i64 id) := by
    have e : (w.alloc (.cells #[.pointer (some ⟨cb, 0, none⟩)] 46)).heap.size = w.heap.size + 1 := by simp
    rw [hW, ← e, World.cell?_alloc_mark]; rfl
  have hcl : cb < w.heap.size := (Array.getElem?_eq_some_iff.1 h.box).1
  have hnS : ∀ x, w.heap.size ≤ x → ¬ S x := fun x hx hS => by have := h.st.lt _ (.inl hS); omega
  refine ⟨hb, (caBare (E := fun j => j < 19) (by omega) (h.grow hb) hs ht (by omega) 58 #[.pointer (some ⟨w.heap.size, 0, none⟩), .pointer (some ⟨w.heap.size + 1, 0, none⟩)] (enters_of Tryd.func58 (by kernel_rfl) rfl)
    (fun s => s.ask () (St.S.abortF id)) (St.err_in (E := fun j => j < 19) (by omega) () _ (St.abort_in (E := fun j => j < 19) (by omega) id)) (fun _ => True) (fun _ _ => trivial) (fun S1 D1 s1 a1 n1 W1 h1 hok h3 h4 hgo => ?_) trivial).mono fun e w' ⟨he, ho, S', D', h1, h2⟩ => ⟨he, S', D', h1, h2⟩⟩
  exact caAbort1_any h3 (box_cell h4 0) p hs (by omega) _ _ id hid (hgo.cell q0 (hnS _ (by omega)) (by omega)) (hgo.cell q1 (hnS _ (by omega)) (by omega))

set_option maxRecDepth 100000 in
set_option maxHeartbeats 1000000 in
/-- The closure of Complete. -/
theorem caComplete1_any {w0 w : World} {S D : Nat → Prop} {sb cb n : Nat} {s : St.S} (h : StS w0 S D sb s n w) (c0 : w.cell? ⟨cb, 0, none⟩ = some (.pointer (some ⟨sb, 0, none⟩))) (p : Nat → Addr) (hs : Sents w0 p) (hn : n ≤ 1000000) (xc x0 x1 : Nat) (id : Int) (hid : -9223372036854775808 ≤ id ∧ id ≤ 9223372036854775807) (l : Int) (_hl : -9223372036854775808 ≤ l ∧ l ≤ 9223372036854775807) (hsum : ∀ u, s.ups id = some u → ∀ k b, k ≤ 256 → St.joinN u.parts k = some b → b.length ≤ 1000000000)
    (c1 : w.cell? ⟨xc, 0, none⟩ = some (.pointer (some ⟨cb, 0, none⟩))) (c2 : w.cell? ⟨x0, 0, none⟩ = some (.int .i64 id)) (c3 : w.cell? ⟨x1, 0, none⟩ = some (.int .i64 l)) :
    Calls Tryd.prog 59 #[.pointer (some ⟨xc, 0, none⟩), .pointer (some ⟨x0, 0, none⟩), .pointer (some ⟨x1, 0, none⟩)] w fun e w' => e = .returned (errR p (s.comp id l).1.2) ∧ ∃ S' D', StS w0 S' D' sb (s.comp id l).2 (n + 1) w' ∧ StGo S D S' D' w w' := by
  have hd : Below w.heap.size w w.drew := (Below.refl w.heap.size w).drew
  have HP := hide (StS.comp (h.grow hd) p hs hn id hid l hsum)
  clear h hs hn hd hid _hl hsum
  go_enter Tryd.func59, Tryd.ntmps59
  go_wp2_with fail
  go_still_tail 6, (by kernel_rfl)
  change wpList _ _ _ _ _ w.drew
  go_wp2_with (first
    | (go_at_call 60; refine HP.out.mono ?_; rintro e w2 ⟨rfl, S', D', h1, h2⟩; have H1 := hide h1; have H2 := hide h2; clear h1 h2)
    | fail)
  go_ret
  exact ⟨rfl, S', D', H1.out, H2.out.drew⟩

/-- Complete asked again, in the boxes of the call. -/
theorem caComplete_again {w0 w : World} {S D : Nat → Prop} {sb cb t n : Nat} {a : Int} {s : St.S} (h : CaS w0 S D sb cb t a s n w) (p : Nat → Addr) (hs : Sents w0 p) (ht : 1 ≤ t ∧ t ≤ 8) (hn : n ≤ 900000) (id : Int) (hid : -9223372036854775808 ≤ id ∧ id ≤ 9223372036854775807) (l : Int) (hl : -9223372036854775808 ≤ l ∧ l ≤ 9223372036854775807) (Ok : St.S → Prop) (hOk : ∀ s, Ok s → Ok (s.ask () (St.S.compF id l)).2) (hOs : ∀ s, Ok s → ∀ u, s.ups id = some u → ∀ k b, k ≤ 256 → St.joinN u.parts k = some b → b.length ≤ 1000000000) (h0 : Ok s) (W : World) (hW : W = ((w.alloc (.cells #[.pointer (some ⟨cb, 0, none⟩)] 46)).alloc (.cells #[.int .i64 id] 3)).alloc (.cells #[.int .i64 l] 3)) :
    Below w.heap.size w W ∧ Calls Tryd.prog 50 #[.pointer (some ⟨cb, 0, none⟩), .func (.func 59) #[] #[.pointer (some ⟨w.heap.size, 0, none⟩), .pointer (some ⟨w.heap.size + 1, 0, none⟩), .pointer (some ⟨w.heap.size + 2, 0, none⟩)]] W fun e w' => e = .returned (.tuple #[.bool (St.again (St.bareOf fun s => s.ask () (St.S.compF id l)) t s).doubt, errR p (St.again (St.bareOf fun s => s.ask () (St.S.compF id l)) t s).r]) ∧ Ok (St.again (St.bareOf fun s => s.ask () (St.S.compF id l)) t s).st ∧
      ∃ S' D', CaS w0 S' D' sb cb t (a + (St.again (St.bareOf fun s => s.ask () (St.S.compF id l)) t s).k) (St.again (St.bareOf fun s => s.ask () (St.S.compF id l)) t s).st (n + t) w' ∧ CaGo S D (fun k => k = cb) S' D' W w' := by
  have hb : Below w.heap.size w W := hW ▸ balloc (balloc (balloc (Below.refl _ _) _) _) _
  have q0 : W.cell? ⟨w.heap.size, 0, none⟩ = some (.pointer (some ⟨cb, 0, none⟩)) := by
    have e : w.heap.size = w.heap.size := by simp
    rw [hW, World.cell?_alloc_lt _ _ _ (by simp <;> omega), World.cell?_alloc_lt _ _ _ (by simp <;> omega), ← e, World.cell?_alloc_mark]; rfl
  have q1 : W.cell? ⟨w.heap.size + 1, 0, none⟩ = some (.int .i64 id) := by
    have e : (w.alloc (.cells #[.pointer (some ⟨cb, 0, none⟩)] 46)).heap.size = w.heap.size + 1 := by simp
    rw [hW, World.cell?_alloc_lt _ _ _ (by simp <;> omega), ← e, World.cell?_alloc_mark]; rfl
  have q2 : W.cell? ⟨w.heap.size + 2, 0, none⟩ = some (.int .i64 l) := by
    have e : ((w.alloc (.cells #[.pointer (some ⟨cb, 0, none⟩)] 46)).alloc (.cells #[.int .i64 id] 3)).heap.size = w.heap.size + 2 := by simp
    rw [hW, ← e, World.cell?_alloc_mark]; rfl
  have hcl : cb < w.heap.size := (Array.getElem?_eq_some_iff.1 h.box).1
  have hnS : ∀ x, w.heap.size ≤ x → ¬ S x := fun x hx hS => by have := h.st.lt _ (.inl hS); omega
  refine ⟨hb, (caBare (E := fun j => j < 19) (by omega) (h.grow hb) hs ht (by omega) 59 #[.pointer (some ⟨w.heap.size, 0, none⟩), .pointer (some ⟨w.heap.size + 1, 0, none⟩), .pointer (some ⟨w.heap.size + 2, 0, none⟩)] (enters_of Tryd.func59 (by kernel_rfl) rfl)
    (fun s => s.ask () (St.S.compF id l)) (St.err_in (E := fun j => j < 19) (by omega) () _ (St.comp_in (E := fun j => j < 19) (by omega) (by omega) id l)) (Ok) hOk (fun S1 D1 s1 a1 n1 W1 h1 hok h3 h4 hgo => ?_) h0).mono fun e w' ⟨he, ho, S', D', h1, h2⟩ => ⟨he, ho, S', D', h1, h2⟩⟩
  exact caComplete1_any h3 (box_cell h4 0) p hs (by omega) _ _ _ id hid l hl (hOs s1 hok) (hgo.cell q0 (hnS _ (by omega)) (by omega)) (hgo.cell q1 (hnS _ (by omega)) (by omega)) (hgo.cell q2 (hnS _ (by omega)) (by omega))

/-- What is told where nothing is there any more, though it may be the call's own doing. -/
def St.Ag.taken {σ : Type} (a : St.Ag σ) : Option Nat := if a.doubt = true ∧ a.r = some 6 then none else a.r
set_option maxRecDepth 100000 in
set_option maxHeartbeats 1000000 in
theorem takeAway_any {σ : Type} {w0 w : World} {p : Nat → Addr} (hs : Sents w0 p) {cb F : Nat} {caps : Array Value} (A : St.Ag σ) (Q : World → Prop) (hA : Calls Tryd.prog 50 #[.pointer (some ⟨cb, 0, none⟩), .func (.func F) #[] caps] w fun e w' => e = .returned (.tuple #[.bool A.doubt, errR p A.r]) ∧ Q w') (hQ : ∀ w', Q w' → Below w0.heap.size w0 w') (hr : ∀ j, A.r = some j → j < 19) :
    Calls Tryd.prog 55 #[.pointer (some ⟨cb, 0, none⟩), .func (.func F) #[] caps] w fun e w' => e = .returned (errR p A.taken) ∧ Q w' := by
  have HA := hide hA
  have HG := hide (fun w' (hq : Q w') => (hs.below (hQ w' hq)))
  have HR := hide hr
  obtain ⟨tk, htk⟩ : ∃ tk, tk = A.taken := ⟨_, rfl⟩
  rw [← htk]
  unfold St.Ag.taken at htk
  clear hA hs hQ hr
  generalize A.doubt = d at *
  generalize A.r = r at *
  cases d
  · have ht : tk = r := by rw [htk]; simp
    subst ht
    clear htk
    generalize hev : errR p tk = ev
    have HEV := hide hev
    rw [hev] at HA
    clear hev
    go_enter Tryd.func55, Tryd.ntmps55
    go_wp2_with (first
      | (go_at_call 50; refine HA.out.mono ?_; rintro e w2 ⟨rfl, hq⟩; have HQ := hide hq; clear hq)
      | fail)
    go_ret
    exact ⟨rfl, HQ.out⟩
  · rcases r with _ | j
    · have ht : tk = none := by rw [htk]; simp
      subst ht
      clear htk
      have k1 := fun W => nil_eql (p 6) W
      unfold errR errV at *
      go_enter Tryd.func55, Tryd.ntmps55
      go_wp2_with (first
        | (go_at_call 50; refine HA.out.mono ?_; rintro e w2 ⟨rfl, hq⟩; have HQ := hide hq; have g6 : w2.cell? ⟨1, 0, none⟩ = some (errV (p 6)) := (HG.out w2 hq).cell 6 (by omega); clear hq; unfold errV at g6)
        | fail)
      go_ret
      exact ⟨rfl, HQ.out⟩
    · by_cases hj : j = 6
      · subst hj
        have ht : tk = none := by rw [htk]; simp
        subst ht
        clear htk
        have k1 := fun W => eql_same (p 6) W
        unfold errR errV at *
        go_enter Tryd.func55, Tryd.ntmps55
        go_wp2_with (first
          | (go_at_call 50; refine HA.out.mono ?_; rintro e w2 ⟨rfl, hq⟩; have HQ := hide hq; have g6 : w2.cell? ⟨1, 0, none⟩ = some (errV (p 6)) := (HG.out w2 hq).cell 6 (by omega); clear hq; unfold errV at g6)
          | fail)
        go_ret
        exact ⟨rfl, HQ.out⟩
      · have ht : tk = some j := by rw [htk]; simp [hj]
        subst ht
        clear htk
        have hj19 := HR.out j rfl
        have K1 := hide (fun (W : World) (hq : Q W) => eql_other (p j) (p 6) W ((HG.out W hq).ne j 6 hj19 (by omega) hj) ((HG.out W hq).blk j hj19).2 ((HG.out W hq).blk 6 (by omega)).2)
        clear hj
        unfold errR errV at *
        go_enter Tryd.func55, Tryd.ntmps55
        go_wp2_with (first
          | (go_at_call 50; refine HA.out.mono ?_; rintro e w2 ⟨rfl, hq⟩; have HQ := hide hq; have k1 := K1.out w2 hq; have g6 : w2.cell? ⟨1, 0, none⟩ = some (errV (p 6)) := (HG.out w2 hq).cell 6 (by omega); clear hq; unfold errV at g6)
          | fail)
        go_ret
        exact ⟨rfl, HQ.out⟩
theorem St.agn_in {σ : Type} {E : Nat → Prop} {f : σ → Option Nat × σ} (hf : ∀ s j, (f s).1 = some j → E j) : ∀ (n : Nat) (last : Option Nat) (s : σ), (∀ j, last = some j → E j) → ∀ j, (St.agn f n last s).r = some j → E j
  | 0, _, _, hl, j, h => hl j h
  | n + 1, last, s, hl, j, h => by
    by_cases he : (f s).1 = some 10
    · rw [St.agn_more he] at h
      exact St.agn_in hf n (some 10) _ (fun j hj => by cases hj; exact hf _ _ he) j h
    · rw [St.agn_stop he] at h
      exact hf _ _ h

set_option maxRecDepth 100000 in
set_option maxHeartbeats 1000000 in
theorem CaS.part {w0 w : World} {S D : Nat → Prop} {sb cb t n : Nat} {a : Int} {s : St.S} (h : CaS w0 S D sb cb t a s n w) (p : Nat → Addr) (hs : Sents w0 p) (ht : 1 ≤ t ∧ t ≤ 8) (hn : n ≤ 900000) (id : Int) (hid : -9223372036854775808 ≤ id ∧ id ≤ 9223372036854775807) (l : Int) (hl : -9223372036854775808 ≤ l ∧ l ≤ 9223372036854775807) (A : Option Addr) (L c : Nat) (b : List UInt8) (ha : Arg w A c b) (hL : b.length = L) (hL2 : L ≤ 1000000000) (hA : ∀ x o, A = some ⟨x, o, none⟩ → b ≠ [] → ¬ S x ∧ ¬ x = cb) :
    Calls Tryd.prog 28 #[.pointer (some ⟨cb, 0, none⟩), .int .i64 id, .int .i64 l, .slice A L c] w fun e w' => e = .returned (errR p (St.again (St.bareOf fun s => s.ask () (St.S.partF id l b)) t s).r) ∧ ∃ S' D', CaS w0 S' D' sb cb t (a + (St.again (St.bareOf fun s => s.ask () (St.S.partF id l b)) t s).k) (St.again (St.bareOf fun s => s.ask () (St.S.partF id l b)) t s).st (n + t) w' ∧ CaGo S D (fun k => k = cb) S' D' w w' := by
  obtain ⟨W, hW⟩ : ∃ W, W = (((w.alloc (.cells #[.pointer (some ⟨cb, 0, none⟩)] 46)).alloc (.cells #[.int .i64 id] 3)).alloc (.cells #[.int .i64 l] 3)).alloc (.cells #[.slice A L c] 22) := ⟨_, rfl⟩
  obtain ⟨hb, hAg⟩ := caPart_again h p hs ht hn id hid l hl A L c b ha hL hL2 hA W hW
  have HT := hide hAg
  have HW := hide hW
  have HB := hide hb
  clear h hs ht hn hid hl ha hL hL2 hA hW hb hAg
  go_enter Tryd.func28, Tryd.ntmps28
  go_wp2_with (first
    | (go_at_call 50; rw [← HW.out]; refine HT.out.mono ?_; rintro e w2 ⟨rfl, S', D', h1, h2⟩; have H1 := hide h1; have H2 := hide h2; clear h1 h2)
    | fail)
  go_ret
  exact ⟨rfl, S', D', H1.out, H2.out.ahead HB.out fun k hk => .inl hk⟩

set_option maxRecDepth 100000 in
set_option maxHeartbeats 1000000 in
theorem CaS.del {w0 w : World} {S D : Nat → Prop} {sb cb t n : Nat} {a : Int} {s : St.S} (h : CaS w0 S D sb cb t a s n w) (p : Nat → Addr) (hs : Sents w0 p) (ht : 1 ≤ t ∧ t ≤ 8) (hn : n ≤ 900000) (k : List UInt8) (hk : k.length ≤ 100000) :
    Calls Tryd.prog 29 #[.pointer (some ⟨cb, 0, none⟩), encStr k] w fun e w' => e = .returned (errR p (St.again (St.bareOf fun s => s.ask () (St.S.delF k)) t s).taken) ∧ ∃ S' D', CaS w0 S' D' sb cb t (a + (St.again (St.bareOf fun s => s.ask () (St.S.delF k)) t s).k) (St.again (St.bareOf fun s => s.ask () (St.S.delF k)) t s).st (n + t) w' ∧ CaGo S D (fun k => k = cb) S' D' w w' := by
  obtain ⟨W, hW⟩ : ∃ W, W = (w.alloc (.cells #[.pointer (some ⟨cb, 0, none⟩)] 46)).alloc (.cells #[encStr k] 9) := ⟨_, rfl⟩
  obtain ⟨hb, hAg⟩ := caDelete_again h p hs ht hn k hk W hW
  have HT := hide (takeAway_any hs (St.again (St.bareOf fun s => s.ask () (St.S.delF k)) t s) _ hAg (fun w' ⟨S', D', h1, _⟩ => h1.st.below) (St.agn_in (E := fun j => j < 19) (St.err_in (E := fun j => j < 19) (by omega) () _ (St.del_in (E := fun j => j < 19) (by omega) k)) t none s (by simp)))
  have HW := hide hW
  have HB := hide hb
  clear h hs ht hn hk hW hb hAg
  go_enter Tryd.func29, Tryd.ntmps29
  go_wp2_with (first
    | (go_at_call 55; rw [← HW.out]; refine HT.out.mono ?_; rintro e w2 ⟨rfl, S', D', h1, h2⟩; have H1 := hide h1; have H2 := hide h2; clear h1 h2)
    | fail)
  go_ret
  exact ⟨rfl, S', D', H1.out, H2.out.ahead HB.out fun k hk => .inl hk⟩

set_option maxRecDepth 100000 in
set_option maxHeartbeats 1000000 in
theorem CaS.abort {w0 w : World} {S D : Nat → Prop} {sb cb t n : Nat} {a : Int} {s : St.S} (h : CaS w0 S D sb cb t a s n w) (p : Nat → Addr) (hs : Sents w0 p) (ht : 1 ≤ t ∧ t ≤ 8) (hn : n ≤ 900000) (id : Int) (hid : -9223372036854775808 ≤ id ∧ id ≤ 9223372036854775807) :
    Calls Tryd.prog 30 #[.pointer (some ⟨cb, 0, none⟩), .int .i64 id] w fun e w' => e = .returned (errR p (St.again (St.bareOf fun s => s.ask () (St.S.abortF id)) t s).taken) ∧ ∃ S' D', CaS w0 S' D' sb cb t (a + (St.again (St.bareOf fun s => s.ask () (St.S.abortF id)) t s).k) (St.again (St.bareOf fun s => s.ask () (St.S.abortF id)) t s).st (n + t) w' ∧ CaGo S D (fun k => k = cb) S' D' w w' := by
  obtain ⟨W, hW⟩ : ∃ W, W = (w.alloc (.cells #[.pointer (some ⟨cb, 0, none⟩)] 46)).alloc (.cells #[.int .i64 id] 3) := ⟨_, rfl⟩
  obtain ⟨hb, hAg⟩ := caAbort_again h p hs ht hn id hid W hW
  have HT := hide (takeAway_any hs (St.again (St.bareOf fun s => s.ask () (St.S.abortF id)) t s) _ hAg (fun w' ⟨S', D', h1, _⟩ => h1.st.below) (St.agn_in (E := fun j => j < 19) (St.err_in (E := fun j => j < 19) (by omega) () _ (St.abort_in (E := fun j => j < 19) (by omega) id)) t none s (by simp)))
  have HW := hide hW
  have HB := hide hb
  clear h hs ht hn hid hW hb hAg
  go_enter Tryd.func30, Tryd.ntmps30
  go_wp2_with (first
    | (go_at_call 55; rw [← HW.out]; refine HT.out.mono ?_; rintro e w2 ⟨rfl, S', D', h1, h2⟩; have H1 := hide h1; have H2 := hide h2; clear h1 h2)
    | fail)
  go_ret
  exact ⟨rfl, S', D', H1.out, H2.out.ahead HB.out fun k hk => .inl hk⟩
end Go.Proofs.YthlclknbehfloaaDoor

namespace Go.Proofs.YthlclknbehfloaaDoor
open Go.RowKit Go.Maps

/-- A box of the call's own is written beside a store. -/
theorem StS.boxed {w0 w w2 : World} {S D S2 D2 : Nat → Prop} {sb n vb i : Nat} {s : St.S} {cs : Array Value} {t : TypeId} (h : StS w0 S2 D2 sb s n w2) (hg : StGo S D S2 D2 w w2) (hv : w.heap[vb]? = some (.cells cs t (0, 0))) (hS : ¬ S vb) (hD : ¬ D vb) (h0 : w0.heap.size ≤ vb) (v : Value) :
    (w2.setCell ⟨vb, i, none⟩ v).heap[vb]? = some (.cells (cs.setIfInBounds i v) t (0, 0)) ∧ StS w0 S2 D2 sb s n (w2.setCell ⟨vb, i, none⟩ v) ∧ CaGo S D (fun k => k = vb) S2 D2 w (w2.setCell ⟨vb, i, none⟩ v) := by
  have hl := (Array.getElem?_eq_some_iff.1 hv).1
  have hc : CaGo S D (fun k => k = vb) S2 D2 w w2 := CaGo.of_st hg
  have hc2 : CaGo S D (fun _ => False) S2 D2 w w2 := CaGo.of_st hg
  obtain ⟨e, hS2⟩ := hc2.stays hl hS id
  have hD2 := hc2.notD hl hD
  exact ⟨heap_set (e.trans hv) i v, h.setC vb i v hS2 hD2 h0, hc.trans ⟨Chg.setCell (S := fun k => S2 k ∨ k = vb) w2 vb i v (.inr rfl), fun _ h => .inl h, fun _ h => .inl h⟩⟩

set_option maxRecDepth 100000 in
set_option maxHeartbeats 1000000 in
/-- The closure of Start. -/
theorem caStart1_any {w0 w : World} {S D : Nat → Prop} {sb cb n : Nat} {s : St.S} (h : StS w0 S D sb s n w) (c0 : w.cell? ⟨cb, 0, none⟩ = some (.pointer (some ⟨sb, 0, none⟩))) (p : Nat → Addr) (hs : Sents w0 p) (hn : n ≤ 1000000) (xc xn vb : Nat) (k : List UInt8) (hk : k.length ≤ 100000)
    (c1 : w.cell? ⟨xc, 0, none⟩ = some (.pointer (some ⟨cb, 0, none⟩))) (c2 : w.cell? ⟨xn, 0, none⟩ = some (encStr k)) (z : Int) (hv : w.heap[vb]? = some (.cells #[.int .i64 z] 3 (0, 0))) (hS : ¬ S vb) (hD : ¬ D vb) (h0 : w0.heap.size ≤ vb) :
    Calls Tryd.prog 52 #[.pointer (some ⟨xc, 0, none⟩), .pointer (some ⟨xn, 0, none⟩), .pointer (some ⟨vb, 0, none⟩)] w fun e w' => e = .returned (errR p (s.start k).1.2) ∧ w'.heap[vb]? = some (.cells #[.int .i64 (s.start k).1.1] 3 (0, 0)) ∧ ∃ S' D', StS w0 S' D' sb (s.start k).2 (n + 1) w' ∧ CaGo S D (fun k => k = vb) S' D' w w' := by
  have HP := hide (fun (W : World) (hW : Below w.heap.size w W) => StS.start (h.grow hW) p hs hn k hk)
  have HV := hide (fun (W : World) (hW : Below w.heap.size w W) (w2 : World) (S2 D2 : Nat → Prop) (h2 : StS w0 S2 D2 sb (s.start k).2 (n + 1) w2) (hg : StGo S D S2 D2 W w2) (v : Value) => h2.boxed (i := 0) hg ((hW.block vb (Array.getElem?_eq_some_iff.1 hv).1).trans hv) hS hD h0 v)
  have HC := hide (fun (W : World) (hW : Below w.heap.size w W) (w2 : World) (S2 D2 : Nat → Prop) (hg : StGo S D S2 D2 W w2) => (((CaGo.of_st (K := fun _ => False) hg).stays (Nat.lt_of_lt_of_le (Array.getElem?_eq_some_iff.1 hv).1 hW.size) hS id).1.trans ((hW.block vb (Array.getElem?_eq_some_iff.1 hv).1).trans hv) : w2.heap[vb]? = some (.cells #[.int .i64 z] 3 (0, 0))))
  clear h hs hn hk hv hS hD h0
  go_enter Tryd.func52, Tryd.ntmps52
  go_wp2_with fail
  go_region_with (go_at_call 11; refine (HP.out _ (below_drewN (Below.refl _ _) _)).mono ?_; rintro e w2 ⟨rfl, S2, D2, h2, hg⟩; have H2 := hide h2; have HG := hide hg; have hx := HC.out _ (below_drewN (Below.refl _ _) _) w2 S2 D2 hg; have cv := box_cell hx 0; have fv := box_free hx 0; clear h2 hg hx)
  all_goals
    go_wp2_with fail
    refine bodyPost_ret (by simp [results, Tryd.results52, go_sem]; try rfl) rfl ?_
    obtain ⟨q1, q2, q3⟩ := HV.out _ (below_drewN (Below.refl _ _) _) w2 S2 D2 H2.out HG.out (.int .i64 (s.start k).1.1)
    exact ⟨rfl, q1, S2, D2, q2, q3.ahead (below_drewN (Below.refl _ _) _) fun k hk => .inl hk⟩

/-- What a client's Start makes of a store. -/
abbrev St.cstart (t : Nat) (k : St.Nm) (s : St.S) : St.Ag (St.S × Int) := St.again (St.askOf fun s => s.ask 0 (St.S.startF k)) t (s, 0)
theorem St.start_in {E : Nat → Prop} (h5 : E 5) (k : St.Nm) (t : St.S) (j : Nat) (h : (St.S.startF k t).1.2 = some j) : E j := by
  unfold St.S.startF at h; split at h <;> simp at h; exact h ▸ h5
set_option maxRecDepth 100000 in
set_option maxHeartbeats 1000000 in
theorem CaS.start {w0 w : World} {S D : Nat → Prop} {sb cb t n : Nat} {a : Int} {s : St.S} (h : CaS w0 S D sb cb t a s n w) (p : Nat → Addr) (hs : Sents w0 p) (ht : 1 ≤ t ∧ t ≤ 8) (hn : n ≤ 900000) (k : List UInt8) (hk : k.length ≤ 100000) :
    Calls Tryd.prog 27 #[.pointer (some ⟨cb, 0, none⟩), encStr k] w fun e w' => e = .returned (.tuple #[.int .i64 (St.cstart t k s).st.2, errR p (St.cstart t k s).r]) ∧ ∃ S' D', CaS w0 S' D' sb cb t (a + (St.cstart t k s).k) (St.cstart t k s).st.1 (n + t) w' ∧ CaGo S D (fun k => k = cb) S' D' w w' := by
  obtain ⟨W, hW⟩ : ∃ W, W = ((w.alloc (.cells #[.pointer (some ⟨cb, 0, none⟩)] 46)).alloc (.cells #[encStr k] 9)).alloc (.cells #[.int .i64 0] 3) := ⟨_, rfl⟩
  have hb : Below w.heap.size w W := hW ▸ balloc (balloc (balloc (Below.refl _ _) _) _) _
  have q0 : W.cell? ⟨w.heap.size, 0, none⟩ = some (.pointer (some ⟨cb, 0, none⟩)) := by
    rw [hW, World.cell?_alloc_lt _ _ _ (by simp; omega), World.cell?_alloc_lt _ _ _ (by simp), World.cell?_alloc_mark]; rfl
  have q1 : W.cell? ⟨w.heap.size + 1, 0, none⟩ = some (encStr k) := by
    rw [hW, World.cell?_alloc_lt _ _ _ (by simp)]
    have e : (w.alloc (.cells #[.pointer (some ⟨cb, 0, none⟩)] 46)).heap.size = w.heap.size + 1 := by simp
    rw [← e, World.cell?_alloc_mark]; rfl
  have q2 : W.heap[w.heap.size + 2]? = some (.cells #[.int .i64 0] 3 (0, 0)) := by
    have e : ((w.alloc (.cells #[.pointer (some ⟨cb, 0, none⟩)] 46)).alloc (.cells #[encStr k] 9)).heap.size = w.heap.size + 2 := by simp
    rw [hW, ← e, heap_alloc_new]
  have hcl : cb < w.heap.size := (Array.getElem?_eq_some_iff.1 h.box).1
  have hvl : w.heap.size + 2 < W.heap.size := (Array.getElem?_eq_some_iff.1 q2).1
  have hnS : ∀ x, w.heap.size ≤ x → ¬ S x := fun x hx hS => by have := h.st.lt _ (.inl hS); omega
  have hnD : ∀ x, w.heap.size ≤ x → ¬ D x := fun x hx hS => by have := h.st.lt _ (.inr hS); omega
  have hw0 : w0.heap.size ≤ w.heap.size := h.st.below.size
  have HA := hide (caAgain (E := fun j => j < 19) (by omega) (h.grow hb) hs ht (by omega) 52 #[.pointer (some ⟨w.heap.size, 0, none⟩), .pointer (some ⟨w.heap.size + 1, 0, none⟩), .pointer (some ⟨w.heap.size + 2, 0, none⟩)] (enters_of Tryd.func52 (by kernel_rfl) rfl)
    (fun s => s.ask 0 (St.S.startF k)) (St.err_in (E := fun j => j < 19) (by omega) 0 _ (St.start_in (E := fun j => j < 19) (by omega) k)) (fun x => x = w.heap.size + 2) (fun z W => W.heap[w.heap.size + 2]? = some (.cells #[.int .i64 z] 3 (0, 0))) (fun _ => True) (fun _ _ => trivial)
    (fun x W1 v hx => (Below.heap_setCell _ _ _ _ (fun e => by have e2 : w.heap.size + 2 = cb := e; omega)).trans hx)
    (fun S1 D1 s1 a1 n1 x W1 h1 _ h3 h4 hgo hx => by
      have hS1 : ¬ S1 (w.heap.size + 2) := fun hy => by
        rcases hgo.s _ hy with hy | hy
        · exact hnS _ (by omega) hy
        · omega
      have hD1 : ¬ D1 (w.heap.size + 2) := fun hy => by
        rcases hgo.d _ hy with hy | hy
        · exact hnD _ (by omega) hy
        · omega
      exact caStart1_any h3 (box_cell h4 0) p hs (by omega) _ _ _ k hk (hgo.cell q0 (hnS _ (Nat.le_refl _)) (by omega)) (hgo.cell q1 (hnS _ (by omega)) (by omega)) x hx hS1 hD1 (by omega)) (by omega) 0 q2 trivial)
  have HW := hide hW
  have HB := hide hb
  clear h hs ht hn hk hW hb q0 q1 q2 hcl hvl hnS hnD hw0
  go_enter Tryd.func27, Tryd.ntmps27
  go_wp2_with (first
    | (go_at_call 50; rw [← HW.out]; refine HA.out.mono ?_; rintro e w2 ⟨rfl, hbx, -, S', D', h1, h2⟩; have H1 := hide h1; have H2 := hide h2; have cv := box_cell hbx 0; simp only [List.getElem?_toArray, List.getElem?_cons_zero] at cv; clear h1 h2 hbx)
    | fail)
  go_returns
  exact ⟨rfl, S', D', H1.out, H2.out.ahead HB.out fun k hk => hk.elim .inl fun e => .inr (by omega)⟩
end Go.Proofs.YthlclknbehfloaaDoor

namespace Go.Proofs.YthlclknbehfloaaDoor
open Go.RowKit Go.Maps

/-- Two boxes of the call's own, written beside a store. -/
structure Two (w0 w : World) (S D : Nat → Prop) (sb n vb vc : Nat) (s : St.S) (x y : Value) (w' : World) : Prop where
  box1 : w'.heap[vb]? = some (.cells #[x] 3 (0, 0))
  box2 : w'.heap[vc]? = some (.cells #[y] 36 (0, 0))
  st : StS w0 S D sb s n w'
  go : CaGo S D (fun k => k = vb ∨ k = vc) S D w w'
theorem two_of {w0 w w2 : World} {S D : Nat → Prop} {sb n vb vc : Nat} {s : St.S} {x0 y0 : Value} (h : StS w0 S D sb s n w2) (hg : Chg S w w2) (hv : w2.heap[vb]? = some (.cells #[x0] 3 (0, 0))) (hv2 : w2.heap[vc]? = some (.cells #[y0] 36 (0, 0))) (hS : ¬ S vb ∧ ¬ D vb ∧ w0.heap.size ≤ vb) (hS2 : ¬ S vc ∧ ¬ D vc ∧ w0.heap.size ≤ vc) (hne : vb ≠ vc) (x y : Value) :
    Two w0 w S D sb n vb vc s x y ((w2.setCell ⟨vb, 0, none⟩ x).setCell ⟨vc, 0, none⟩ y) ∧ Two w0 w S D sb n vb vc s x y ((w2.setCell ⟨vc, 0, none⟩ y).setCell ⟨vb, 0, none⟩ x) := by
  have g0 : CaGo S D (fun k => k = vb ∨ k = vc) S D w w2 := ⟨hg.mono fun _ h => .inl h, fun _ h => .inl h, fun _ h => .inl h⟩
  have gb : ∀ W v, CaGo S D (fun k => k = vb ∨ k = vc) S D W (W.setCell ⟨vb, 0, none⟩ v) := fun W v => ⟨Chg.setCell (S := fun k => S k ∨ (k = vb ∨ k = vc)) W vb 0 v (.inr (.inl rfl)), fun _ h => .inl h, fun _ h => .inl h⟩
  have gc : ∀ W v, CaGo S D (fun k => k = vb ∨ k = vc) S D W (W.setCell ⟨vc, 0, none⟩ v) := fun W v => ⟨Chg.setCell (S := fun k => S k ∨ (k = vb ∨ k = vc)) W vc 0 v (.inr (.inr rfl)), fun _ h => .inl h, fun _ h => .inl h⟩
  refine ⟨⟨?_, ?_, (h.setC vb 0 x hS.1 hS.2.1 hS.2.2).setC vc 0 y hS2.1 hS2.2.1 hS2.2.2, (g0.trans (gb _ _)).trans (gc _ _)⟩, ⟨?_, ?_, (h.setC vc 0 y hS2.1 hS2.2.1 hS2.2.2).setC vb 0 x hS.1 hS.2.1 hS.2.2, (g0.trans (gc _ _)).trans (gb _ _)⟩⟩
  · rw [Below.heap_setCell _ _ _ _ (fun e => hne (by first | exact e | exact e.symm)), heap_set hv 0 x]; rfl
  · rw [heap_set ((Below.heap_setCell _ _ _ _ (fun e => hne (by first | exact e | exact e.symm))).trans hv2) 0 y]; rfl
  · rw [heap_set ((Below.heap_setCell _ _ _ _ (fun e => hne (by first | exact e | exact e.symm))).trans hv) 0 x]; rfl
  · rw [Below.heap_setCell _ _ _ _ (fun e => hne (by first | exact e | exact e.symm)), heap_set hv2 0 y]; rfl

set_option maxRecDepth 100000 in
set_option maxHeartbeats 4000000 in
/-- The closure of Head. -/
theorem caHead1_any {w0 w : World} {S D : Nat → Prop} {sb cb n : Nat} {s : St.S} (h : StS w0 S D sb s n w) (c0 : w.cell? ⟨cb, 0, none⟩ = some (.pointer (some ⟨sb, 0, none⟩))) (p : Nat → Addr) (hs : Sents w0 p) (hn : n ≤ 1000000) (htb : Tabs w0) (xc xn vb vc : Nat) (k : List UInt8) (hk : k.length ≤ 100000)
    (c1 : w.cell? ⟨xc, 0, none⟩ = some (.pointer (some ⟨cb, 0, none⟩))) (c2 : w.cell? ⟨xn, 0, none⟩ = some (encStr k)) (z z2 : Int) (hv : w.heap[vb]? = some (.cells #[.int .i64 z] 3 (0, 0))) (hv2 : w.heap[vc]? = some (.cells #[.int .u32 z2] 36 (0, 0))) (hS : ¬ S vb ∧ ¬ D vb ∧ w0.heap.size ≤ vb) (hS2 : ¬ S vc ∧ ¬ D vc ∧ w0.heap.size ≤ vc) (hne : vb ≠ vc) :
    Calls Tryd.prog 76 #[.pointer (some ⟨xc, 0, none⟩), .pointer (some ⟨xn, 0, none⟩), .pointer (some ⟨vb, 0, none⟩), .pointer (some ⟨vc, 0, none⟩)] w fun e w' => e = .returned (errR p (s.head k).1.2) ∧ Two w0 w S D sb (n + 1) vb vc (s.head k).2 (.int .i64 ((s.head k).1.1.length : Int)) (.int .u32 (U (Crc.sum (s.head k).1.1))) w' := by
  have HP := hide (fun (W : World) (hW : Below w.heap.size w W) => StS.head (h.grow hW) p hs hn htb k hk)
  have HC := hide (fun (W : World) (hW : Below w.heap.size w W) (w2 : World) (hg : Chg S W w2) => (And.intro ((hg.block vb (Nat.lt_of_lt_of_le (Array.getElem?_eq_some_iff.1 hv).1 hW.size) hS.1).trans ((hW.block vb (Array.getElem?_eq_some_iff.1 hv).1).trans hv)) ((hg.block vc (Nat.lt_of_lt_of_le (Array.getElem?_eq_some_iff.1 hv2).1 hW.size) hS2.1).trans ((hW.block vc (Array.getElem?_eq_some_iff.1 hv2).1).trans hv2)) : w2.heap[vb]? = some (.cells #[.int .i64 z] 3 (0, 0)) ∧ w2.heap[vc]? = some (.cells #[.int .u32 z2] 36 (0, 0))))
  have HV := hide (fun (W : World) (hW : Below w.heap.size w W) (w2 : World) (h2 : StS w0 S D sb (s.head k).2 (n + 1) w2) (hg : Chg S W w2) => two_of (w := w) h2 ((Chg.of_below hW).then hg) (HC.out W hW w2 hg).1 (HC.out W hW w2 hg).2 hS hS2 hne (.int .i64 ((s.head k).1.1.length : Int)) (.int .u32 (U (Crc.sum (s.head k).1.1))))
  clear h hs hn hk hv hv2 hS hS2 htb
  go_enter Tryd.func76, Tryd.ntmps76
  go_wp2_with fail
  go_region_with (go_at_call 16; refine (HP.out _ (below_drewN (Below.refl _ _) _)).mono ?_; rintro e w2 ⟨rfl, h2, hg⟩; have H2 := hide h2; have HG := hide hg; have hx := HC.out _ (below_drewN (Below.refl _ _) _) w2 hg; have cv := box_cell hx.1 0; have fv := box_free hx.1 0; have cv2 := box_cell hx.2 0; have fv2 := box_free hx.2 0; have cv3 : ∀ v, (w2.setCell ⟨vb, 0, none⟩ v).cell? ⟨vc, 0, none⟩ = some (.int .u32 z2) := fun v => (World.cell?_setCell_other _ _ _ _ (by intro e; injection e with e _ _; first | exact hne e | exact hne e.symm)).trans cv2; have cv4 : ∀ v, (w2.setCell ⟨vc, 0, none⟩ v).cell? ⟨vb, 0, none⟩ = some (.int .i64 z) := fun v => (World.cell?_setCell_other _ _ _ _ (by intro e; injection e with e _ _; first | exact hne e | exact hne e.symm)).trans cv; clear h2 hg hx)
  all_goals
    go_wp2_with fail
    refine bodyPost_ret (by simp [results, Tryd.results76, go_sem]; try rfl) rfl ?_
    have hq := HV.out _ (below_drewN (Below.refl _ _) _) w2 H2.out HG.out
    first | exact ⟨rfl, hq.1⟩ | exact ⟨rfl, hq.2⟩

/-- What a client's Head makes of a store. -/
abbrev St.chead (t : Nat) (k : St.Nm) (s : St.S) : St.Ag (St.S × List UInt8) := St.again (St.askOf fun s => s.ask [] (St.S.headF k)) t (s, [])
theorem St.head_in {E : Nat → Prop} (h6 : E 6) (k : St.Nm) (t : St.S) (j : Nat) (h : (St.S.headF k t).1.2 = some j) : E j := by
  unfold St.S.headF at h; split at h <;> simp at h; exact h ▸ h6
theorem sum_nil : U (Crc.sum []) = 0 := by decide
set_option maxRecDepth 100000 in
set_option maxHeartbeats 1000000 in
theorem CaS.head {w0 w : World} {S D : Nat → Prop} {sb cb t n : Nat} {a : Int} {s : St.S} (h : CaS w0 S D sb cb t a s n w) (p : Nat → Addr) (hs : Sents w0 p) (htb : Tabs w0) (ht : 1 ≤ t ∧ t ≤ 8) (hn : n ≤ 900000) (k : List UInt8) (hk : k.length ≤ 100000) :
    Calls Tryd.prog 61 #[.pointer (some ⟨cb, 0, none⟩), encStr k] w fun e w' => e = .returned (.tuple #[.int .i64 ((St.chead t k s).st.2.length : Int), .int .u32 (U (Crc.sum (St.chead t k s).st.2)), errR p (St.chead t k s).r]) ∧ ∃ S' D', CaS w0 S' D' sb cb t (a + (St.chead t k s).k) (St.chead t k s).st.1 (n + t) w' ∧ CaGo S D (fun k => k = cb) S' D' w w' := by
  obtain ⟨W, hW⟩ : ∃ W, W = (((w.alloc (.cells #[.pointer (some ⟨cb, 0, none⟩)] 46)).alloc (.cells #[encStr k] 9)).alloc (.cells #[.int .i64 0] 3)).alloc (.cells #[.int .u32 0] 36) := ⟨_, rfl⟩
  have hb : Below w.heap.size w W := hW ▸ balloc (balloc (balloc (balloc (Below.refl _ _) _) _) _) _
  have q0 : W.cell? ⟨w.heap.size, 0, none⟩ = some (.pointer (some ⟨cb, 0, none⟩)) := by
    rw [hW, World.cell?_alloc_lt _ _ _ (by simp <;> omega), World.cell?_alloc_lt _ _ _ (by simp <;> omega), World.cell?_alloc_lt _ _ _ (by simp <;> omega), World.cell?_alloc_mark]; rfl
  have q1 : W.cell? ⟨w.heap.size + 1, 0, none⟩ = some (encStr k) := by
    have e : (w.alloc (.cells #[.pointer (some ⟨cb, 0, none⟩)] 46)).heap.size = w.heap.size + 1 := by simp
    rw [hW, ← e, World.cell?_alloc_lt _ _ _ (by simp <;> omega), World.cell?_alloc_lt _ _ _ (by simp <;> omega), World.cell?_alloc_mark]; rfl
  have q2 : W.heap[w.heap.size + 2]? = some (.cells #[.int .i64 0] 3 (0, 0)) := by
    have e : ((w.alloc (.cells #[.pointer (some ⟨cb, 0, none⟩)] 46)).alloc (.cells #[encStr k] 9)).heap.size = w.heap.size + 2 := by simp
    rw [hW, ← e, Below.heap_alloc _ _ _ (by simp), heap_alloc_new]
  have q3 : W.heap[w.heap.size + 3]? = some (.cells #[.int .u32 0] 36 (0, 0)) := by
    have e : (((w.alloc (.cells #[.pointer (some ⟨cb, 0, none⟩)] 46)).alloc (.cells #[encStr k] 9)).alloc (.cells #[.int .i64 0] 3)).heap.size = w.heap.size + 3 := by simp
    rw [hW, ← e, heap_alloc_new]
  have hcl : cb < w.heap.size := (Array.getElem?_eq_some_iff.1 h.box).1
  have hvl : w.heap.size + 3 < W.heap.size := (Array.getElem?_eq_some_iff.1 q3).1
  have hnS : ∀ x, w.heap.size ≤ x → ¬ S x := fun x hx hS => by have := h.st.lt _ (.inl hS); omega
  have hnD : ∀ x, w.heap.size ≤ x → ¬ D x := fun x hx hS => by have := h.st.lt _ (.inr hS); omega
  have hw0 : w0.heap.size ≤ w.heap.size := h.st.below.size
  have HA := hide (caAgain (E := fun j => j < 19) (by omega) (h.grow hb) hs ht (by omega) 76 #[.pointer (some ⟨w.heap.size, 0, none⟩), .pointer (some ⟨w.heap.size + 1, 0, none⟩), .pointer (some ⟨w.heap.size + 2, 0, none⟩), .pointer (some ⟨w.heap.size + 3, 0, none⟩)] (enters_of Tryd.func76 (by kernel_rfl) rfl)
    (fun s => s.ask [] (St.S.headF k)) (St.err_in (E := fun j => j < 19) (by omega) [] _ (St.head_in (E := fun j => j < 19) (by omega) k)) (fun x => x = w.heap.size + 2 ∨ x = w.heap.size + 3) (fun b W => W.heap[w.heap.size + 2]? = some (.cells #[.int .i64 (b.length : Int)] 3 (0, 0)) ∧ W.heap[w.heap.size + 3]? = some (.cells #[.int .u32 (U (Crc.sum b))] 36 (0, 0))) (fun _ => True) (fun _ _ => trivial)
    (fun x W1 v hx => ⟨(Below.heap_setCell _ _ _ _ (fun e => by have e2 : w.heap.size + 2 = cb := e; omega)).trans hx.1, (Below.heap_setCell _ _ _ _ (fun e => by have e2 : w.heap.size + 3 = cb := e; omega)).trans hx.2⟩)
    (fun S1 D1 s1 a1 n1 x W1 h1 _ h3 h4 hgo hx => by
      have hS1 : ∀ y, w.heap.size ≤ y → y < W.heap.size → ¬ S1 y := fun y hy1 hy2 hy => by
        rcases hgo.s _ hy with hy | hy
        · exact hnS _ (by omega) hy
        · omega
      have hD1 : ∀ y, w.heap.size ≤ y → y < W.heap.size → ¬ D1 y := fun y hy1 hy2 hy => by
        rcases hgo.d _ hy with hy | hy
        · exact hnD _ (by omega) hy
        · omega
      exact (caHead1_any h3 (box_cell h4 0) p hs (by omega) htb _ _ _ _ k hk (hgo.cell q0 (hnS _ (Nat.le_refl _)) (by omega)) (hgo.cell q1 (hnS _ (by omega)) (by omega)) _ _ hx.1 hx.2 ⟨hS1 _ (by omega) (by omega), hD1 _ (by omega) (by omega), by omega⟩ ⟨hS1 _ (by omega) (by omega), hD1 _ (by omega) (by omega), by omega⟩ (by omega)).mono fun e w' ⟨he, htw⟩ => ⟨he, ⟨htw.box1, htw.box2⟩, S1, D1, htw.st, htw.go⟩) (by omega) [] ⟨q2, by rw [sum_nil]; exact q3⟩ trivial)
  have HW := hide hW
  have HB := hide hb
  clear h hs ht hn hk hW hb q0 q1 q2 q3 hcl hvl hnS hnD hw0 htb
  go_enter Tryd.func61, Tryd.ntmps61
  go_wp2_with (first
    | (go_at_call 50; rw [← HW.out]; refine HA.out.mono ?_; rintro e w2 ⟨rfl, hbx, -, S', D', h1, h2⟩; have H1 := hide h1; have H2 := hide h2; have cv := box_cell hbx.1 0; simp only [List.getElem?_toArray, List.getElem?_cons_zero] at cv; have cv2 := box_cell hbx.2 0; simp only [List.getElem?_toArray, List.getElem?_cons_zero] at cv2; clear h1 h2 hbx)
    | fail)
  go_quiet (fail)
  go_wp2_with fail
  go_returns
  exact ⟨by first | rfl | trivial, S', D', H1.out.grow (below_drewN (Below.refl _ _) _), (H2.out.ahead HB.out fun k hk => hk.elim .inl fun e => .inr (by omega)).trans ⟨Chg.of_below (below_drewN (Below.refl _ _) _), fun _ h => .inl h, fun _ h => .inl h⟩⟩
end Go.Proofs.YthlclknbehfloaaDoor

namespace Go.Proofs.YthlclknbehfloaaDoor
open Go.RowKit Go.Maps

theorem neq_of1 {P : Program} {t T U : TypeId} {x y : Value} {c : Bool} {w : World} (h : (binOp .eql t (.iface T x) (.iface U y)).run P w = .ok (.bool c) w) : (binOp .neq t (.iface T x) (.iface U y)).run P w = .ok (.bool (!c)) w := by
  simp only [binOp] at h ⊢
  rw [Sem.run_bind] at h ⊢
  cases hr : (Op.equal t (.iface T x) (.iface U y)).run P w <;> rw [hr] at h <;> simp [Result.andThen, Sem.run_pure] at h ⊢
  obtain ⟨rfl, rfl⟩ := h
  simp
theorem neq_of2 {P : Program} {t U : TypeId} {y : Value} {c : Bool} {w : World} (h : (binOp .eql t .nilIface (.iface U y)).run P w = .ok (.bool c) w) : (binOp .neq t .nilIface (.iface U y)).run P w = .ok (.bool (!c)) w := by
  simp only [binOp] at h ⊢
  rw [Sem.run_bind] at h ⊢
  cases hr : (Op.equal t .nilIface (.iface U y)).run P w <;> rw [hr] at h <;> simp [Result.andThen, Sem.run_pure] at h ⊢
  obtain ⟨rfl, rfl⟩ := h
  simp
/-- What a client's Complete makes of a store. -/
def St.ccomp (t : Nat) (id l : Int) (k : St.Nm) (size sum : Int) (s : St.S) : St.Ag St.S :=
  if (St.again (St.bareOf fun s => s.ask () (St.S.compF id l)) t s).doubt = true ∧ (St.again (St.bareOf fun s => s.ask () (St.S.compF id l)) t s).r = some 6 then
    ⟨if (St.chead t k (St.again (St.bareOf fun s => s.ask () (St.S.compF id l)) t s).st).r = none ∧ (((St.chead t k (St.again (St.bareOf fun s => s.ask () (St.S.compF id l)) t s).st).st.2.length : Int) ≠ size ∨ U (Crc.sum (St.chead t k (St.again (St.bareOf fun s => s.ask () (St.S.compF id l)) t s).st).st.2) ≠ sum) then some 6 else (St.chead t k (St.again (St.bareOf fun s => s.ask () (St.S.compF id l)) t s).st).r, (St.again (St.bareOf fun s => s.ask () (St.S.compF id l)) t s).k + (St.chead t k (St.again (St.bareOf fun s => s.ask () (St.S.compF id l)) t s).st).k, (St.chead t k (St.again (St.bareOf fun s => s.ask () (St.S.compF id l)) t s).st).st.1⟩
  else (St.again (St.bareOf fun s => s.ask () (St.S.compF id l)) t s)
theorem St.chead_lt (t : Nat) (k : St.Nm) (s : St.S) (j : Nat) (h : (St.chead t k s).r = some j) : j < 19 :=
  St.agn_in (E := fun j => j < 19) (f := St.askOf fun s => s.ask [] (St.S.headF k)) (fun x => St.err_in (E := fun j => j < 19) (by omega) [] _ (St.head_in (E := fun j => j < 19) (by omega) k) x.1) t none (s, []) (by simp) j h

set_option maxRecDepth 100000 in
set_option maxHeartbeats 2000000 in
theorem CaS.comp {w0 w : World} {S D : Nat → Prop} {sb cb t n : Nat} {a : Int} {s : St.S} (h : CaS w0 S D sb cb t a s n w) (p : Nat → Addr) (hs : Sents w0 p) (htb : Tabs w0) (ht : 1 ≤ t ∧ t ≤ 8) (hn : n ≤ 800000) (id : Int) (hid : -9223372036854775808 ≤ id ∧ id ≤ 9223372036854775807) (l : Int) (hl : -9223372036854775808 ≤ l ∧ l ≤ 9223372036854775807)
    (k : List UInt8) (hk : k.length ≤ 100000) (size : Int) (sum : Int)
    (Ok : St.S → Prop) (hOk : ∀ s, Ok s → Ok (s.ask () (St.S.compF id l)).2) (hOs : ∀ s, Ok s → ∀ u, s.ups id = some u → ∀ k b, k ≤ 256 → St.joinN u.parts k = some b → b.length ≤ 1000000000) (h0 : Ok s) :
    Calls Tryd.prog 31 #[.pointer (some ⟨cb, 0, none⟩), .int .i64 id, .int .i64 l, encStr k, .int .i64 size, .int .u32 sum] w fun e w' => e = .returned (errR p (St.ccomp t id l k size sum s).r) ∧ ∃ S' D', CaS w0 S' D' sb cb t (a + (St.ccomp t id l k size sum s).k) (St.ccomp t id l k size sum s).st (n + t + t) w' ∧ CaGo S D (fun k => k = cb) S' D' w w' := by
  obtain ⟨W, hW⟩ : ∃ W, W = ((w.alloc (.cells #[.pointer (some ⟨cb, 0, none⟩)] 46)).alloc (.cells #[.int .i64 id] 3)).alloc (.cells #[.int .i64 l] 3) := ⟨_, rfl⟩
  obtain ⟨hb, hAg⟩ := caComplete_again h p hs ht (by omega) id hid l hl Ok hOk hOs h0 W hW
  obtain ⟨C, hC⟩ : ∃ C, C = (St.again (St.bareOf fun s => s.ask () (St.S.compF id l)) t s) := ⟨_, rfl⟩
  obtain ⟨R, hR⟩ : ∃ R, R = St.ccomp t id l k size sum s := ⟨_, rfl⟩
  have hlt : ∀ j, C.r = some j → j < 19 := fun j hj => St.agn_in (E := fun j => j < 19) (St.err_in (E := fun j => j < 19) (by omega) () _ (St.comp_in (E := fun j => j < 19) (by omega) (by omega) id l)) t none s (by simp) j (hC ▸ hj)
  have hHd := fun (w2 : World) (S2 D2 : Nat → Prop) (h2 : CaS w0 S2 D2 sb cb t (a + C.k) C.st (n + t) w2) => h2.head p hs htb ht (by omega) k hk
  have hx0 : W.cell? ⟨w.heap.size, 0, none⟩ = some (.pointer (some ⟨cb, 0, none⟩)) := by
    rw [hW, World.cell?_alloc_lt _ _ _ (by simp <;> omega), World.cell?_alloc_lt _ _ _ (by simp <;> omega), World.cell?_alloc_mark]; rfl
  have hcl : cb < w.heap.size := (Array.getElem?_eq_some_iff.1 h.box).1
  have hzS : ¬ S w.heap.size := fun hS => by have := h.st.lt _ (.inl hS); omega
  rw [← hR]
  unfold St.ccomp at hR
  rw [← hC] at hAg hR
  have HX : Hid (∀ (w2 : World) (S2 D2 : Nat → Prop), CaGo S D (fun k => k = cb) S2 D2 W w2 → w2.cell? ⟨w.heap.size, 0, none⟩ = some (.pointer (some ⟨cb, 0, none⟩))) := hide (fun w2 S2 D2 hg => hg.cell hx0 hzS (by omega))
  have HG := hide (fun (w2 : World) (hw2 : Below w0.heap.size w0 w2) => hs.below hw2)
  have HA := hide hAg
  have HHD := hide hHd
  have HL := hide hlt
  have HHL := hide (fun j => St.chead_lt t k C.st j)
  have HW := hide hW
  have HB := hide hb
  have HFIN : Hid (∀ w' (S' D' : Nat → Prop), R = C → CaS w0 S' D' sb cb t (a + C.k) C.st (n + t) w' → CaGo S D (fun k => k = cb) S' D' W w' → ∃ S' D', CaS w0 S' D' sb cb t (a + R.k) R.st (n + t + t) w' ∧ CaGo S D (fun k => k = cb) S' D' w w') := hide (fun w' S' D' e h1 h2 => ⟨S', D', e ▸ h1.mono (by omega), h2.ahead hb fun k hk => .inl hk⟩)
  clear h hs ht hn hid hl hk hOk hOs h0 hW hb hAg hC hlt hHd hx0 hcl hzS htb
  generalize hdd : C.doubt = d at *
  cases d
  · have e : R = C := by rw [hR]; simp
    have HE := hide e
    clear hR e
    go_enter Tryd.func31, Tryd.ntmps31
    go_wp2_with (first
      | (go_at_call 50; rw [← HW.out]; refine HA.out.mono ?_; rintro e w2 ⟨rfl, -, S', D', h1, h2⟩; have H1 := hide h1; have H2 := hide h2; clear h1 h2; generalize hev : errR p C.r = ev)
      | fail)
    go_ret
    exact ⟨by rw [HE.out, hev]; rfl, HFIN.out _ _ _ HE.out H1.out H2.out⟩
  · rcases hcr : C.r with _ | j
    · have e : R = C := by rw [hR, hcr]; simp
      have er : R.r = none := by rw [e, hcr]
      have HE := hide e
      rw [er]
      rw [hcr] at HA
      clear hR e er hcr
      have k1 := fun W => neq_of2 (nil_eql (p 6) W)
      unfold errR errV at *
      go_enter Tryd.func31, Tryd.ntmps31
      go_wp2_with (first
        | (go_at_call 50; rw [← HW.out]; refine HA.out.mono ?_; rintro e w2 ⟨rfl, -, S', D', h1, h2⟩; have H1 := hide h1; have H2 := hide h2; have g6 : w2.cell? ⟨1, 0, none⟩ = some (errV (p 6)) := (HG.out w2 h1.st.below).cell 6 (by omega); unfold errV at g6; clear h1 h2)
        | fail)
      go_ret
      exact ⟨rfl, HFIN.out _ _ _ HE.out H1.out H2.out⟩
    · by_cases hj : j = 6
      · subst hj
        have hR2 : R = ⟨if (St.chead t k C.st).r = none ∧ (((St.chead t k C.st).st.2.length : Int) ≠ size ∨ U (Crc.sum (St.chead t k C.st).st.2) ≠ sum) then some 6 else (St.chead t k C.st).r, C.k + (St.chead t k C.st).k, (St.chead t k C.st).st.1⟩ := by rw [hR, hcr]; simp
        have HR2 := hide hR2
        clear hR hR2
        rw [hcr] at HA
        clear hcr
        obtain ⟨V, hV⟩ : ∃ V, V = St.chead t k C.st := ⟨_, rfl⟩
        rw [← hV] at HR2 HHL HHD
        clear hV
        have HFN : Hid (∀ w2 w' (S2 D2 S' D' : Nat → Prop), CaGo S D (fun k => k = cb) S2 D2 W w2 → CaS w0 S' D' sb cb t (a + C.k + V.k) V.st.1 (n + t + t) w' → CaGo S2 D2 (fun k => k = cb) S' D' w2 w' → ∃ S' D', CaS w0 S' D' sb cb t (a + R.k) R.st (n + t + t) w' ∧ CaGo S D (fun k => k = cb) S' D' w w') := hide (fun w2 w' S2 D2 S' D' h1 h2 h3 => ⟨S', D', by rw [HR2.out]; simpa [Int.add_assoc] using h2, (h1.trans h3).ahead HB.out fun k hk => .inl hk⟩)
        have k1 := fun W => neq_of1 (eql_same (p 6) W)
        rcases hvr : V.r with _ | i
        · rw [hvr] at HR2 HHD
          obtain ⟨len, hlen⟩ : ∃ len : Int, len = (V.st.2.length : Int) := ⟨_, rfl⟩
          obtain ⟨sm, hsm⟩ : ∃ sm : Int, sm = U (Crc.sum V.st.2) := ⟨_, rfl⟩
          rw [← hlen, ← hsm] at HR2 HHD
          clear hlen hsm hvr
          by_cases hq : len = size
          · by_cases hq2 : sm = sum
            · have er : R.r = none := by rw [HR2.out]; simp [hq, hq2]
              rw [er]
              subst hq hq2
              clear er
              unfold errR errV at *
              go_enter Tryd.func31, Tryd.ntmps31
              go_wp2_with (first
                | (go_at_call 50; rw [← HW.out]; refine HA.out.mono ?_; rintro e w2 ⟨rfl, -, S2, D2, h1, h2⟩; have H1 := hide h1; have H2 := hide h2; have cx := HX.out w2 S2 D2 h2; have g6 : w2.cell? ⟨1, 0, none⟩ = some (errV (p 6)) := (HG.out w2 h1.st.below).cell 6 (by omega); unfold errV at g6; clear h1 h2)
                | (go_at_call 61; refine (HHD.out _ _ _ H1.out).mono ?_; rintro e w3 ⟨rfl, S3, D3, h3, h4⟩; have H3 := hide h3; have H4 := hide h4; have g62 : w3.cell? ⟨1, 0, none⟩ = some (errV (p 6)) := (HG.out w3 h3.st.below).cell 6 (by omega); unfold errV at g62; clear h3 h4)
                | fail)
              go_ret
              exact ⟨rfl, HFN.out _ _ _ _ _ _ H2.out H3.out H4.out⟩
            · have er : R.r = some 6 := by rw [HR2.out]; simp [hq2]
              rw [er]
              have bq : (sm != sum) = true := by simpa using hq2
              subst hq
              clear er hq2
              unfold errR errV at *
              go_enter Tryd.func31, Tryd.ntmps31
              go_wp2_with (first
                | (go_at_call 50; rw [← HW.out]; refine HA.out.mono ?_; rintro e w2 ⟨rfl, -, S2, D2, h1, h2⟩; have H1 := hide h1; have H2 := hide h2; have cx := HX.out w2 S2 D2 h2; have g6 : w2.cell? ⟨1, 0, none⟩ = some (errV (p 6)) := (HG.out w2 h1.st.below).cell 6 (by omega); unfold errV at g6; clear h1 h2)
                | (go_at_call 61; refine (HHD.out _ _ _ H1.out).mono ?_; rintro e w3 ⟨rfl, S3, D3, h3, h4⟩; have H3 := hide h3; have H4 := hide h4; have g62 : w3.cell? ⟨1, 0, none⟩ = some (errV (p 6)) := (HG.out w3 h3.st.below).cell 6 (by omega); unfold errV at g62; clear h3 h4)
                | fail)
              go_ret
              skip
              exact ⟨rfl, HFN.out _ _ _ _ _ _ H2.out H3.out H4.out⟩
          · have er : R.r = some 6 := by rw [HR2.out]; simp [hq]
            rw [er]
            have bq : (len != size) = true := by simpa using hq
            clear er hq
            unfold errR errV at *
            go_enter Tryd.func31, Tryd.ntmps31
            go_wp2_with (first
              | (go_at_call 50; rw [← HW.out]; refine HA.out.mono ?_; rintro e w2 ⟨rfl, -, S2, D2, h1, h2⟩; have H1 := hide h1; have H2 := hide h2; have cx := HX.out w2 S2 D2 h2; have g6 : w2.cell? ⟨1, 0, none⟩ = some (errV (p 6)) := (HG.out w2 h1.st.below).cell 6 (by omega); unfold errV at g6; clear h1 h2)
              | (go_at_call 61; refine (HHD.out _ _ _ H1.out).mono ?_; rintro e w3 ⟨rfl, S3, D3, h3, h4⟩; have H3 := hide h3; have H4 := hide h4; have g62 : w3.cell? ⟨1, 0, none⟩ = some (errV (p 6)) := (HG.out w3 h3.st.below).cell 6 (by omega); unfold errV at g62; clear h3 h4)
              | fail)
            go_ret
            exact ⟨rfl, HFN.out _ _ _ _ _ _ H2.out H3.out H4.out⟩
        · have er : R.r = some i := by rw [HR2.out]; simp [hvr]
          rw [er]
          rw [hvr] at HHD
          have k3 := eql_nil (p i)
          clear er hvr
          unfold errR errV at *
          go_enter Tryd.func31, Tryd.ntmps31
          go_wp2_with (first
            | (go_at_call 50; rw [← HW.out]; refine HA.out.mono ?_; rintro e w2 ⟨rfl, -, S2, D2, h1, h2⟩; have H1 := hide h1; have H2 := hide h2; have cx := HX.out w2 S2 D2 h2; have g6 : w2.cell? ⟨1, 0, none⟩ = some (errV (p 6)) := (HG.out w2 h1.st.below).cell 6 (by omega); unfold errV at g6; clear h1 h2)
            | (go_at_call 61; refine (HHD.out _ _ _ H1.out).mono ?_; rintro e w3 ⟨rfl, S3, D3, h3, h4⟩; have H3 := hide h3; have H4 := hide h4; have g62 : w3.cell? ⟨1, 0, none⟩ = some (errV (p 6)) := (HG.out w3 h3.st.below).cell 6 (by omega); unfold errV at g62; clear h3 h4)
            | fail)
          go_ret
          exact ⟨rfl, HFN.out _ _ _ _ _ _ H2.out H3.out H4.out⟩
      · have e : R = C := by rw [hR, hcr]; simp [hj]
        have er : R.r = some j := by rw [e, hcr]
        have hj19 := HL.out j hcr
        have HE := hide e
        rw [er]
        have K1 := hide (fun (W : World) (hw2 : Below w0.heap.size w0 W) => neq_of1 (eql_other (p j) (p 6) W ((HG.out W hw2).ne j 6 hj19 (by omega) hj) ((HG.out W hw2).blk j hj19).2 ((HG.out W hw2).blk 6 (by omega)).2))
        rw [hcr] at HA
        clear hR e er hcr hj
        unfold errR errV at *
        go_enter Tryd.func31, Tryd.ntmps31
        go_wp2_with (first
          | (go_at_call 50; rw [← HW.out]; refine HA.out.mono ?_; rintro e w2 ⟨rfl, -, S', D', h1, h2⟩; have H1 := hide h1; have H2 := hide h2; have k1 := K1.out w2 h1.st.below; have g6 : w2.cell? ⟨1, 0, none⟩ = some (errV (p 6)) := (HG.out w2 h1.st.below).cell 6 (by omega); unfold errV at g6; clear h1 h2)
          | fail)
        go_ret
        exact ⟨rfl, HFIN.out _ _ _ HE.out H1.out H2.out⟩
end Go.Proofs.YthlclknbehfloaaDoor
