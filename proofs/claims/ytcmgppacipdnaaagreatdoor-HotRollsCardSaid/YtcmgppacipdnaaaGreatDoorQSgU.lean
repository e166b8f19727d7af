/-
  Package seg: until, before.
  What seg's Read stands on: records cut off ahead, the first batch of a row turned.
  A row of batches put behind another one; Read's closure.
-/
import Derived.Test.YtcmgppacipdnaaaGreatDoorQNsC
import Derived.Test.YtcmgppacipdnaaaGreatDoorQRcAll
namespace Go.Proofs.YtcmgppacipdnaaaGreatDoor
open Go.RowKit Go.Shelf Go.Sort

set_option maxRecDepth 100000 in
theorem before1_any (B : Nat) (o a b c d : Int) (w : World) (cB : w.cell? ⟨B, 0, none⟩ = some (.int .i64 o)) :
    Calls Tryz.prog 136 #[.agg #[.int .i64 a, .int .i64 b, .int .i64 c, .int .i64 d], .pointer (some ⟨B, 0, none⟩)] w fun e w' => e = .returned (.bool (decide (o < a))) ∧ w' = w.alloc (.cells #[.int .i64 a, .int .i64 b, .int .i64 c, .int .i64 d] 138) := by
  have hB : B < w.heap.size := World.block_lt_of_cell? _ _ cB
  have c2 : (w.alloc (.cells #[.int .i64 a, .int .i64 b, .int .i64 c, .int .i64 d] 138)).cell? ⟨B, 0, none⟩ = some (.int .i64 o) := ((balloc (Below.refl w.heap.size w) _).cell (p := ⟨B, 0, none⟩) hB).trans cB
  go_enter Tryz.func136, Tryz.ntmps136
  go_wp2_with fail
  go_ret
  exact ⟨rfl, rfl⟩

/-- A test of edges: it reads, and may make new memory. -/
def Tests (F : Nat) (caps : Array Value) (P : Sg.Edge → Bool) (W : World) : Prop :=
  ∀ e : Sg.Edge, (0 ≤ e.pos ∧ e.pos ≤ 1000000000) → Calls Tryz.prog F (#[egV e] ++ caps) W fun r w' => r = .returned (.bool (P e)) ∧ ∃ q os, w' = grow (W.drewN q) os

set_option maxRecDepth 100000 in
theorem until1_any (B1 B2 X F : Nat) (caps : Array Value) (P : Sg.Edge → Bool) (A : Option Addr) (c i : Nat) (l : List Sg.Edge) (w : World) (hi : i < l.length) (he : EgAt w A c l) (c1 : w.cell? ⟨B1, 0, none⟩ = some (.func (.func F) #[] caps)) (c2 : w.cell? ⟨B2, 0, none⟩ = some (.pointer (some ⟨X, 0, none⟩)))
    (c3 : w.cell? ⟨X, 3, none⟩ = some (.slice A l.length c)) (hE : Enters Tryz.prog F) (hp : 0 ≤ (Sg.ed l i).pos ∧ (Sg.ed l i).pos ≤ 1000000000) (hF : ∀ q, Tests F caps P (w.drewN q)) :
    Calls Tryz.prog 139 (#[.int .i64 i] ++ #[.pointer (some ⟨B1, 0, none⟩), .pointer (some ⟨B2, 0, none⟩)]) w fun e w' => e = .returned (.bool (P (Sg.ed l i))) ∧ ∃ q os, w' = grow (w.drewN q) os := by
  show Calls Tryz.prog 139 #[.int .i64 i, .pointer (some ⟨B1, 0, none⟩), .pointer (some ⟨B2, 0, none⟩)] w _
  obtain ⟨g, rfl, hg, k0, k1, k2, k3⟩ := he.at_ i hi
  have hle := he.le
  have HF := hide (hF 1 (Sg.ed l i) hp)
  generalize Sg.ed l i = m at *
  obtain ⟨mo, mp, me, mt⟩ := m
  generalize l.length = n at *
  simp only at k0 k1 k2 k3
  unfold egV at HF
  simp only at HF
  unfold Enters at hE
  clear he hF hp
  go_enter Tryz.func139, Tryz.ntmps139
  go_upto_region 1 with fail
  go_still_tail 8, (by kernel_rfl)
  change wpList _ _ _ _ _ w.drew
  go_wp2_with fail
  refine HF.out.mono ?_
  rintro e w2 ⟨rfl, q, os, hw⟩
  have HW := hide hw
  clear hw
  go_wp2_with fail
  go_ret
  exact ⟨rfl, q + 1, os, by rw [HW.out, World.drewN_drewN, Nat.add_comm]⟩

namespace Sg
/-- How many edges the test lets pass. -/
def cnt (l : List Edge) (P : Edge → Bool) : Nat := (List.range l.length).countP (fun i => !P (ed l i))
theorem cnt_le (l : List Edge) (P : Edge → Bool) : cnt l P ≤ l.length := by
  have := List.countP_le_length (p := fun i => !P (ed l i)) (l := List.range l.length)
  simpa [cnt] using this
end Sg

set_option maxRecDepth 100000 in
set_option maxHeartbeats 1000000 in
theorem until_any (X D F : Nat) (caps : Array Value) (P : Sg.Edge → Bool) (s : Sg.St) (T : Nat → Prop) (w : World) (h : SegAt w X D s T) (ho : Sg.Ok s) (hE : Enters Tryz.prog F) (hF : ∀ W, Below w.heap.size w W → Tests F caps P W)
    (hmono : ∀ a b, a ≤ b → b < s.edges.length → P (Sg.ed s.edges a) = true → P (Sg.ed s.edges b) = true) :
    Calls Tryz.prog 100 #[.pointer (some ⟨X, 0, none⟩), .func (.func F) #[] caps] w fun e w' => e = .returned (.int .i64 ((Sg.cnt s.edges P : Int) - 1)) ∧ Below w.heap.size w w' := by
  obtain ⟨v, h⟩ := h
  obtain ⟨A, c, rfl, he, -, -, -, c3, -⟩ := h.cells
  have hX := h.lt
  have hlen := ho.len
  obtain ⟨W0, hW0⟩ : ∃ W0, W0 = (w.alloc (.cells #[.pointer (some ⟨X, 0, none⟩)] 87)).alloc (.cells #[.func (.func F) #[] caps] 146) := ⟨_, rfl⟩
  have hb0 : Below w.heap.size w W0 := by rw [hW0]; exact balloc (balloc (Below.refl _ _) _) _
  have b0 : W0.cell? ⟨w.heap.size, 0, none⟩ = some (.pointer (some ⟨X, 0, none⟩)) := by rw [hW0]; exact cell_alloc_sl _ (cell_new_sl _ _ _)
  have b1 : W0.cell? ⟨w.heap.size + 1, 0, none⟩ = some (.func (.func F) #[] caps) := by
    rw [hW0]
    have e : (w.alloc (.cells #[.pointer (some ⟨X, 0, none⟩)] 87)).heap.size = w.heap.size + 1 := by simp
    rw [← e]; exact cell_new_sl _ _ _
  have x3 : W0.cell? ⟨X, 3, none⟩ = some (.slice A s.edges.length c) := (hb0.cell (p := ⟨X, 3, none⟩) hX).trans c3
  have hle := he.le
  have hS := Any.sort_Search (P := Tryz.prog) lay_searchF 139 #[.pointer (some ⟨w.heap.size + 1, 0, none⟩), .pointer (some ⟨w.heap.size, 0, none⟩)] s.edges.length (fun i => P (Sg.ed s.edges i)) W0 (enters_of Tryz.func139 (by kernel_rfl) rfl) (by omega)
    (fun m os i hi => by
      have hbg := below_grown_sl W0.heap.size W0 m os (Nat.le_refl _)
      have up : ∀ {a v}, W0.cell? a = some v → (grow (W0.drewN m) os).cell? a = some v := fun {a v} ha => (hbg.cell (p := a) (World.block_lt_of_cell? _ _ ha)).trans ha
      have hbw : Below w.heap.size w (grow (W0.drewN m) os) := hb0.trans (hbg.mono hb0.size)
      refine (until1_any (w.heap.size + 1) w.heap.size X F caps P A c i s.edges _ hi (he.below hbw) (up b1) (up b0) (up x3) hE (ho.pos _ (Sg.ed_mem hi)) fun q => hF _ (below_drewN hbw q)).mono ?_
      rintro e w' ⟨rfl, q, os2, hw2⟩
      exact ⟨rfl, q, os2, hw2⟩)
    (fun a b hab hb ha => hmono a b hab hb ha)
  have hk2 : (List.range s.edges.length).countP (fun i => !P (Sg.ed s.edges i)) = Sg.cnt s.edges P := rfl
  rw [hk2] at hS
  have hkn := Sg.cnt_le s.edges P
  generalize Sg.cnt s.edges P = k at *
  generalize s.edges.length = n at *
  have HSE := hide hS
  have HB0 := hide hb0
  have HW0 := hide hW0
  clear h ho hE hF hmono hS hb0 hW0 c3 he hk2
  have hw1 : IntKind.i64.wrap ((k : Int) - 1) = (k : Int) - 1 := by rw [IntKind.wrap_i64]; omega
  go_enter Tryz.func100, Tryz.ntmps100
  go_upto_region 1 with fail
  rw [← HW0.out]
  go_wp2_with (first
    | (go_at_call 53; refine HSE.out.mono ?_; rintro e w2 ⟨rfl, q, os, hw2⟩; have HB2 : Hid (Below W0.heap.size W0 w2) := hide (hw2 ▸ below_grown_sl W0.heap.size W0 q os (Nat.le_refl _)); clear hw2)
    | fail)
  go_ret
  exact ⟨rfl, HB0.out.trans (HB2.out.mono HB0.out.size)⟩

set_option maxRecDepth 100000 in
set_option maxHeartbeats 1000000 in
/-- The last edge whose offset is not above this one; below 0, if there is none. -/
theorem sgBefore_any (X D : Nat) (s : Sg.St) (T : Nat → Prop) (o : Int) (w : World) (h : SegAt w X D s T) (ho : Sg.Ok s) (hmono : ∀ a b, a ≤ b → b < s.edges.length → (Sg.ed s.edges a).off ≤ (Sg.ed s.edges b).off) :
    Calls Tryz.prog 97 #[.pointer (some ⟨X, 0, none⟩), .int .i64 o] w fun e w' => e = .returned (.int .i64 ((Sg.cnt s.edges (fun e => decide (o < e.off)) : Int) - 1)) ∧ Below w.heap.size w w' := by
  have hb1 : Below w.heap.size w (w.alloc (.cells #[.int .i64 o] 2)) := balloc (Below.refl _ _) _
  have cB : (w.alloc (.cells #[.int .i64 o] 2)).cell? ⟨w.heap.size, 0, none⟩ = some (.int .i64 o) := cell_new_sl _ _ _
  have HU := hide (until_any X D 136 #[.pointer (some ⟨w.heap.size, 0, none⟩)] (fun e => decide (o < e.off)) s T _ (h.below hb1) ho (enters_of Tryz.func136 (by kernel_rfl) rfl)
    (fun W hw e _ => (before1_any w.heap.size o e.off e.pos e.ep e.time W ((hw.cell (p := ⟨w.heap.size, 0, none⟩) (by simp)).trans cB)).mono fun r w' ⟨h1, h2⟩ => ⟨h1, 0, #[.cells #[.int .i64 e.off, .int .i64 e.pos, .int .i64 e.ep, .int .i64 e.time] 138], by rw [h2]; rfl⟩)
    (fun a b hab hb ha => decide_eq_true (by have := of_decide_eq_true ha; have := hmono a b hab hb; omega)))
  have HB1 := hide hb1
  generalize Sg.cnt s.edges (fun e => decide (o < e.off)) = k at *
  clear h ho hmono hb1 cB
  go_enter Tryz.func97, Tryz.ntmps97
  go_wp2_with (first
    | (go_at_call 100; refine HU.out.mono ?_; rintro e w2 ⟨rfl, hb2⟩; have HB2 := hide (HB1.out.trans (hb2.mono HB1.out.size)); clear hb2)
    | fail)
  go_ret
  exact ⟨rfl, HB2.out⟩
end Go.Proofs.YtcmgppacipdnaaaGreatDoor

namespace Go.Proofs.YtcmgppacipdnaaaGreatDoor
open Go.RowKit Go.Maps Go.Sort

theorem rec_elem : Tryz.prog.underlying 34 = some (.slice (Tryz.prog.elem 34)) := by kernel_rfl
theorem rec_sizeOf (W : World) : (sizeOf (Tryz.prog.elem 34)).run Tryz.prog W = .ok 3 W := by
  have h : Tryz.prog.elem 34 = 80 := by kernel_rfl
  obtain ⟨i, hi, hz, hs1, hby⟩ := info_parts record_info
  rw [h]; simp [sizeOf, typeInfo, hi, hs1]
def cutR (A : Option Addr) (cap q : Nat) : Option Addr := if cap = q then A else A.map (·.add (q * 3))
theorem run_cut_rec (W : World) (A : Option Addr) (n cap q : Nat) (h : q ≤ n) (_hn : n ≤ cap) :
    (Instr.sliceAt 34 (.slice A n cap) (some (.int .i64 (q : Int))) none none).run Tryz.prog W = .ok (.slice (cutR A cap q) (n - q) (cap - q)) W := by
  rw [run_sliceAt_slice W _ _ _ _ _ rec_elem, run_slice_l W _ A n cap rec_elem .i64 (q : Int) (by omega) (by omega), rec_sizeOf]
  simp [Result.andThen, sliced, cutR]
theorem Recs.cut {w : World} {A : Option Addr} {rs : List Rc.Rec} (h : Recs w A rs) (cap q : Nat) (hq : q < rs.length) (hl : rs.length ≤ cap) : Recs w (cutR A cap q) (rs.drop q) := by
  rcases h with h | ⟨b, off, e, hlt, hc⟩
  · rw [h] at hq; simp at hq
  · refine .inr ⟨b, off + q * 3, ?_, hlt, fun k hk => ?_⟩
    · unfold cutR
      rw [if_neg (by omega), e]
      simp [Addr.add_lit]
    · rw [List.length_drop] at hk
      have := hc (q + k) (by omega)
      rw [show off + q * 3 + k * 3 = off + (q + k) * 3 by omega]
      rw [show (rs.drop q).getD k default = rs.getD (q + k) default from by simp [List.getD]]
      exact this
/-- A batch without its first q records, from offset o on. -/
def cutB (b : Rc.Bat) (o : Int) (q : Nat) : Rc.Bat := ⟨o, b.epoch, b.recs.drop q⟩
theorem NewBat.cut {lo : Nat} {w : World} {A : Option Addr} {c : Nat} {b : Rc.Bat} (h : NewBat lo w A c b) (o : Int) (q : Nat) (hq : q < b.recs.length) (ho : -9223372036854775808 ≤ o ∧ o ≤ 9223372036854775807) : NewBat lo w (cutR A c q) (c - q) (cutB b o q) := fun W hW => by
  have g := h W hW
  have h1 := g.le
  have h2 := g.max
  refine ⟨by simp only [cutB, List.length_drop]; omega, by omega, g.recs.cut c q hq h1, ho, g.epoch⟩
theorem Above.setC {lo : Nat} {w W : World} (h : Above lo w W) (g i : Nat) (v : Value) (hg : g < lo ∨ w.heap.size ≤ g) : Above lo w (W.setCell ⟨g, i, none⟩ v) :=
  ⟨by simpa using h.size, fun k h1 h2 => (Below.heap_setCell _ _ _ _ (by intro e; subst e; rcases hg with hg | hg <;> omega)).trans (h.block k h1 h2)⟩
/-- The first batch of a row is turned: its records, its base. -/
theorem BRow.turn {w : World} {lo : Nat} {v : Value} {q : PBat} {qs : List PBat} (h : BRow w lo v (q :: qs)) (o : Int) (k : Nat) (hk : k < q.b.recs.length) (ho : -9223372036854775808 ≤ o ∧ o ≤ 9223372036854775807) :
    ∃ g cap, v = .slice (some ⟨g, 0, none⟩) (qs.length + 1) cap ∧ lo ≤ g ∧ g < w.heap.size ∧ w.cell? ⟨g, 0, none⟩ = some (.int .i64 q.b.base) ∧ w.cell? ⟨g, 1, none⟩ = some (.int .i64 q.b.epoch) ∧ w.cell? ⟨g, 2, none⟩ = some (.slice q.A q.b.recs.length q.c) ∧ w.frozen? ⟨g, 0, none⟩ = false ∧ w.frozen? ⟨g, 2, none⟩ = false ∧ qs.length + 1 ≤ cap ∧
      BRow ((w.setCell ⟨g, 2, none⟩ (.slice (cutR q.A q.c k) (q.b.recs.length - k) (q.c - k))).setCell ⟨g, 0, none⟩ (.int .i64 o)) lo v (⟨cutB q.b o k, cutR q.A q.c k, q.c - k⟩ :: qs) := by
  rcases h.own.2 with ⟨_, h0⟩ | ⟨g, cap, cur, e, hg, hh, hn, hm, hs, ht⟩
  · simp at h0
  · have hc := h.own.cells (g := g) (by rw [e]; rfl)
    have c0 := hc 0 (.int .i64 q.b.base) (by simp [PBat.cells])
    have c1 := hc 1 (.int .i64 q.b.epoch) (by simp [PBat.cells])
    have c2 := hc 2 (.slice q.A q.b.recs.length q.c) (by simp [PBat.cells])
    rw [Addr.add_lit, Nat.zero_add] at c0 c1 c2
    have hgl : g < w.heap.size := (Array.getElem?_eq_some_iff.1 hh).1
    refine ⟨g, cap, e, hg, hgl, c0, c1, c2, box_free hh 0, box_free hh 2, by simpa using hn, ⟨?_, .inr ⟨g, cap, ?_, e, hg, ?_, hn, hm, ?_, ?_⟩⟩, fun x hx => ?_⟩
    · exact bcells_len _
    · exact (cur.setIfInBounds 2 (.slice (cutR q.A q.c k) (q.b.recs.length - k) (q.c - k))).setIfInBounds 0 (.int .i64 o)
    · exact heap_setCell_same _ g 0 _ _ _ (heap_setCell_same w g 2 _ _ _ hh)
    · simpa using hs
    · have h1 := List.take_append_drop ((q :: qs).length * 3) cur.toList
      obtain ⟨tl, htl⟩ : ∃ tl, cur.toList.drop ((q :: qs).length * 3) = tl := ⟨_, rfl⟩
      rw [ht, htl] at h1
      have e1 : cur.toList = .int .i64 q.b.base :: .int .i64 q.b.epoch :: .slice q.A q.b.recs.length q.c :: (qs.flatMap PBat.cells ++ tl) := by
        rw [← h1]
        simp [PBat.cells]
      rw [Array.toList_setIfInBounds, Array.toList_setIfInBounds, e1]
      simp only [List.set_cons_succ, List.set_cons_zero, List.flatMap_cons, PBat.cells, cutB, List.length_cons, List.length_drop, List.cons_append, List.nil_append]
      rw [show (qs.length + 1) * 3 = (qs.flatMap PBat.cells).length + 1 + 1 + 1 by rw [bcells_len]; omega]
      simp
    · have key : ∀ x ∈ q :: qs, ∃ l0 wk, lo ≤ l0 ∧ NewBat l0 wk x.A x.c x.b ∧ Above l0 wk ((w.setCell ⟨g, 2, none⟩ (.slice (cutR q.A q.c k) (q.b.recs.length - k) (q.c - k))).setCell ⟨g, 0, none⟩ (.int .i64 o)) ∧ ∀ k, v.ownBlock = some k → k < l0 ∨ wk.heap.size ≤ k := fun x hx => by
        obtain ⟨l0, wk, h0, h1, h2, h3⟩ := h.el x hx
        have hgo := h3 g (by rw [e]; rfl)
        exact ⟨l0, wk, h0, h1, (h2.setC g 2 _ hgo).setC g 0 _ hgo, h3⟩
      rcases List.mem_cons.1 hx with rfl | hx
      · obtain ⟨l0, wk, h0, h1, h2, h3⟩ := key q List.mem_cons_self
        exact ⟨l0, wk, h0, h1.cut o k hk ho, h2, h3⟩
      · exact key x (List.mem_cons_of_mem _ hx)
end Go.Proofs.YtcmgppacipdnaaaGreatDoor

namespace Go.Proofs.YtcmgppacipdnaaaGreatDoor
open Go.RowKit Go.Maps Go.Sort Go.Shelf

theorem BRow.join {w w' : World} {lo lo2 : Nat} {v v' v2 : Value} {qs1 qs2 : List PBat} (h1 : BRow w lo v qs1) (h2 : BRow w lo2 v2 qs2) (hlo : lo ≤ lo2) (hsep : ∀ k, v.ownBlock = some k → k < lo2) (hg : w.grownBy w' v.ownBlock) (hv : v'.ownBlock = v.ownBlock ∨ v'.ownBlock = some w.heap.size)
    (ho : w'.ownsRow lo 36 3 v' (qs1.length + qs2.length) (qs1.flatMap PBat.cells ++ qs2.flatMap PBat.cells)) : BRow w' lo v' (qs1 ++ qs2) := by
  have key : ∀ (x : PBat), (∃ l0 wk, lo ≤ l0 ∧ NewBat l0 wk x.A x.c x.b ∧ Above l0 wk w ∧ ∀ k, v.ownBlock = some k → k < l0 ∨ wk.heap.size ≤ k) → ∃ l0 wk, lo ≤ l0 ∧ NewBat l0 wk x.A x.c x.b ∧ Above l0 wk w' ∧ ∀ k, v'.ownBlock = some k → k < l0 ∨ wk.heap.size ≤ k := by
    rintro x ⟨m0, mk, g0, g1, g2, g3⟩
    refine ⟨m0, mk, g0, g1, ⟨Nat.le_trans g2.size hg.size, fun k hk hl => ?_⟩, fun k hk => ?_⟩
    · have hne : some k ≠ v.ownBlock := fun e => by
        rcases g3 k e.symm with h | h <;> omega
      exact (hg.block k (Nat.lt_of_lt_of_le hl g2.size) hne).trans (g2.block k hk hl)
    · rcases hv with e | e
      · exact g3 k (e.symm.trans hk)
      · rw [e] at hk
        injection hk with hk
        have := g2.size
        exact .inr (by omega)
  refine ⟨by rw [List.length_append, List.flatMap_append]; exact ho, fun x hx => ?_⟩
  rcases List.mem_append.1 hx with hx | hx
  · exact key x (h1.el x hx)
  · obtain ⟨l0, wk, g0, g1, g2, -⟩ := h2.el x hx
    exact key x ⟨l0, wk, by omega, g1, g2, fun k hk => .inl (by have := hsep k hk; omega)⟩
theorem bcells_one (qs : List PBat) : ∀ u ∈ qs.flatMap PBat.cells, u.oneCell' = true := fun u hu => by
  obtain ⟨q, _, hu⟩ := List.mem_flatMap.1 hu
  exact q.cells_one u hu
section
variable {w : World} {ops : Array Oper} {rest : List Oper} {o : Oper} {a : Act} {Q : Exit → Act → World → Prop}
/-- append(l, behind...), both rows of batches of one's own. -/
theorem wpList_appB (hgd : o.guard = none) (s x : Operand) (ho : o.op = .call { callee := .builtin .append, args := #[s, x], argTypes := #[26, 26] })
    (lo lo2 : Nat) (v v2 : Value) (qs1 qs2 : List PBat) (hs : a.eval s = v) (hx : a.eval x = v2) (h1 : BRow w lo v qs1) (h2 : BRow w lo2 v2 qs2) (hlo : lo ≤ lo2) (hsep : ∀ k, v.ownBlock = some k → k < lo2) (hlen : qs1.length + qs2.length ≤ 1000000) (hbase : lo ≤ w.heap.size)
    (h : ∀ v' w', BRow w' lo v' (qs1 ++ qs2) → w.grownBy w' v.ownBlock → wpList Tryz.prog ops Q rest (a.put o.dst v') w') : wpList Tryz.prog ops Q (o :: rest) a w := by
  obtain ⟨i, hi, hz, hs1, hby⟩ := info_parts batch_info
  have key : ∃ v' w', (Builtin.append_ #[26, 26] o.type #[v, v2]).run Tryz.prog w = .ok v' w' ∧ BRow w' lo v' (qs1 ++ qs2) ∧ w.grownBy w' v.ownBlock := by
    rcases h2.own.2 with ⟨rfl, h0⟩ | ⟨g, cap, cur, rfl, hg, hh, hn, hm, hsz, ht⟩
    · have e0 : qs2 = [] := List.eq_nil_of_length_eq_zero h0
      subst e0
      refine ⟨v, w, ?_, by simpa using h1, World.grownBy.refl w _⟩
      have u := Tryz.underlying26
      rcases h1.own.2 with ⟨rfl, _⟩ | ⟨g, cap, cur, rfl, _, _, hnc, _⟩
      · simp [Builtin.append_, run_underlying u, sizeOf, typeInfo, hi, Builtin.lenOf, Builtin.firstCells]
      · simp [Builtin.append_, run_underlying u, sizeOf, typeInfo, hi, Builtin.lenOf, Builtin.firstCells, hnc, storeCells]
    · obtain ⟨v', w', hrun, r2, r3, _, r5⟩ := run_append_own_at (P := Tryz.prog) w lo 26 o.type 36 i _ 3 40 Tryz.underlying26 hi hz hs1 hby rfl (by omega) v qs1.length _ h1.own ⟨g, 0, none⟩ qs2.length cap (qs2.flatMap PBat.cells) (bcells_len _)
        (fun j u hu => h2.own.cells (g := g) rfl j u hu) (bcells_one _) (by simp only [maxLen]; omega) (by omega) hbase
      exact ⟨v', w', hrun, h1.join h2 hlo hsep r3 r5 r2, r3⟩
  obtain ⟨v', w', hrun, k1, k2⟩ := key
  refine wpList_plain hgd fun K hK => ?_
  unfold Oper.wp execOp
  simp only [ho, resolve, invoke, builtin, Sem.run_bind, Sem.run_pure, Result.andThen_ok, List.map_toArray, List.map_cons, List.map_nil, hs, hx, hrun]
  exact hK _ _ (h v' w' k1 k2)
end

set_option maxRecDepth 100000 in
theorem read1_any (B1 B2 : Nat) (bg mo : Int) (a b c d : Int) (w : World) (c1 : w.cell? ⟨B1, 0, none⟩ = some (.int .i64 bg)) (c2 : w.cell? ⟨B2, 0, none⟩ = some (.int .i64 mo)) (hb : -9223372036854775808 ≤ b - bg ∧ b - bg ≤ 9223372036854775807) :
    Calls Tryz.prog 101 #[.agg #[.int .i64 a, .int .i64 b, .int .i64 c, .int .i64 d], .pointer (some ⟨B1, 0, none⟩), .pointer (some ⟨B2, 0, none⟩)] w fun e w' => e = .returned (.bool (decide (mo < b - bg))) ∧ w' = w.alloc (.cells #[.int .i64 a, .int .i64 b, .int .i64 c, .int .i64 d] 138) := by
  have h1 : B1 < w.heap.size := World.block_lt_of_cell? _ _ c1
  have h2 : B2 < w.heap.size := World.block_lt_of_cell? _ _ c2
  have k1 : (w.alloc (.cells #[.int .i64 a, .int .i64 b, .int .i64 c, .int .i64 d] 138)).cell? ⟨B1, 0, none⟩ = some (.int .i64 bg) := ((balloc (Below.refl w.heap.size w) _).cell (p := ⟨B1, 0, none⟩) h1).trans c1
  have k2 : (w.alloc (.cells #[.int .i64 a, .int .i64 b, .int .i64 c, .int .i64 d] 138)).cell? ⟨B2, 0, none⟩ = some (.int .i64 mo) := ((balloc (Below.refl w.heap.size w) _).cell (p := ⟨B2, 0, none⟩) h2).trans c2
  have hw : IntKind.i64.wrap (b - bg) = b - bg := by rw [IntKind.wrap_i64]; omega
  go_enter Tryz.func101, Tryz.ntmps101
  go_wp2_with fail
  go_ret
  exact ⟨rfl, rfl⟩
end Go.Proofs.YtcmgppacipdnaaaGreatDoor
