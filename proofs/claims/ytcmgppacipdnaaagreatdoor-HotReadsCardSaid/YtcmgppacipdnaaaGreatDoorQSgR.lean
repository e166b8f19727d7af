/-
  What seg's Read stands on: records cut off ahead, the first batch of a row turned.
  A row of batches put behind another one; Read's closure.
  Package seg: Read, where the file has its batches.
  Package seg: Cut.
  What is read of bytes is what is written as just these bytes: plainly. Nothing of any program is named here.
-/
import Derived.Test.YtcmgppacipdnaaaGreatDoorQSgW
import Derived.Test.YtcmgppacipdnaaaGreatDoorQRcQ
import Derived.Test.YtcmgppacipdnaaaGreatDoorQVRdr
namespace Go.Proofs.YtcmgppacipdnaaaGreatDoor
open Go.RowKit Go.Maps Go.Sort

theorem rec_elem : Tryz.prog.underlying 34 = some (.slice (Tryz.prog.elem 34)) := by kernel_rfl
theorem rec_sizeOf (W : World) : (sizeOf (Tryz.prog.elem 34)).run Tryz.prog W = .ok 3 W := by
  have h : Tryz.prog.elem 34 = 80 := by kernel_rfl
  obtain ⟨i, hi, hz, hs1, hby⟩ := info_parts record_info
  rw [h]; simp [sizeOf, typeInfo, hi, hs1]
def cutR (A : Option Addr) (cap q : Nat) : Option Addr := if cap = q then A else A.map (·.add (q * 3))
theorem run_cut_rec (W : World) (A : Option Addr) (n cap q : Nat) (h : q ≤ n) (_hn : n ≤ cap) :
    (Instr.sliceAt 34 (.slice A n cap) (some (.int .i64 (q : Int))) none none).run Tryz.prog W = .ok (.slice (cutR A cap q) (n - q) (cap - q)) W := by
  rw [run_sliceAt_slice W _ _ _ _ _ rec_elem, run_slice_l W _ A n cap rec_elem .i64 (q : Int) (by omega) (by omega), rec_sizeOf]
  simp [Result.andThen, sliced, cutR]
theorem Recs.cut {w : World} {A : Option Addr} {rs : List Rc.Rec} (h : Recs w A rs) (cap q : Nat) (hq : q < rs.length) (hl : rs.length ≤ cap) : Recs w (cutR A cap q) (rs.drop q) := by
  rcases h with h | ⟨b, off, e, hlt, hc⟩
  · rw [h] at hq; simp at hq
  · refine .inr ⟨b, off + q * 3, ?_, hlt, fun k hk => ?_⟩
    · unfold cutR
      rw [if_neg (by omega), e]
      simp [Addr.add_lit]
    · rw [List.length_drop] at hk
      have := hc (q + k) (by omega)
      rw [show off + q * 3 + k * 3 = off + (q + k) * 3 by omega]
      rw [show (rs.drop q).getD k default = rs.getD (q + k) default from by simp [List.getD]]
      exact this
/-- A batch without its first q records, from offset o on. -/
def cutB (b : Rc.Bat) (o : Int) (q : Nat) : Rc.Bat := ⟨o, b.epoch, b.recs.drop q⟩
theorem NewBat.cut {lo : Nat} {w : World} {A : Option Addr} {c : Nat} {b : Rc.Bat} (h : NewBat lo w A c b) (o : Int) (q : Nat) (hq : q < b.recs.length) (ho : -9223372036854775808 ≤ o ∧ o ≤ 9223372036854775807) : NewBat lo w (cutR A c q) (c - q) (cutB b o q) := fun W hW => by
  have g := h W hW
  have h1 := g.le
  have h2 := g.max
  refine ⟨by simp only [cutB, List.length_drop]; omega, by omega, g.recs.cut c q hq h1, ho, g.epoch⟩
theorem Above.setC {lo : Nat} {w W : World} (h : Above lo w W) (g i : Nat) (v : Value) (hg : g < lo ∨ w.heap.size ≤ g) : Above lo w (W.setCell ⟨g, i, none⟩ v) :=
  ⟨by simpa using h.size, fun k h1 h2 => (Below.heap_setCell _ _ _ _ (by intro e; subst e; rcases hg with hg | hg <;> omega)).trans (h.block k h1 h2)⟩
/-- The first batch of a row is turned: its records, its base. -/
theorem BRow.turn {w : World} {lo : Nat} {v : Value} {q : PBat} {qs : List PBat} (h : BRow w lo v (q :: qs)) (o : Int) (k : Nat) (hk : k < q.b.recs.length) (ho : -9223372036854775808 ≤ o ∧ o ≤ 9223372036854775807) :
    ∃ g cap, v = .slice (some ⟨g, 0, none⟩) (qs.length + 1) cap ∧ lo ≤ g ∧ g < w.heap.size ∧ w.cell? ⟨g, 0, none⟩ = some (.int .i64 q.b.base) ∧ w.cell? ⟨g, 1, none⟩ = some (.int .i64 q.b.epoch) ∧ w.cell? ⟨g, 2, none⟩ = some (.slice q.A q.b.recs.length q.c) ∧ w.frozen? ⟨g, 0, none⟩ = false ∧ w.frozen? ⟨g, 2, none⟩ = false ∧ qs.length + 1 ≤ cap ∧
      BRow ((w.setCell ⟨g, 2, none⟩ (.slice (cutR q.A q.c k) (q.b.recs.length - k) (q.c - k))).setCell ⟨g, 0, none⟩ (.int .i64 o)) lo v (⟨cutB q.b o k, cutR q.A q.c k, q.c - k⟩ :: qs) := by
  rcases h.own.2 with ⟨_, h0⟩ | ⟨g, cap, cur, e, hg, hh, hn, hm, hs, ht⟩
  · simp at h0
  · have hc := h.own.cells (g := g) (by rw [e]; rfl)
    have c0 := hc 0 (.int .i64 q.b.base) (by simp [PBat.cells])
    have c1 := hc 1 (.int .i64 q.b.epoch) (by simp [PBat.cells])
    have c2 := hc 2 (.slice q.A q.b.recs.length q.c) (by simp [PBat.cells])
    rw [Addr.add_lit, Nat.zero_add] at c0 c1 c2
    have hgl : g < w.heap.size := (Array.getElem?_eq_some_iff.1 hh).1
    refine ⟨g, cap, e, hg, hgl, c0, c1, c2, box_free hh 0, box_free hh 2, by simpa using hn, ⟨?_, .inr ⟨g, cap, ?_, e, hg, ?_, hn, hm, ?_, ?_⟩⟩, fun x hx => ?_⟩
    · exact bcells_len _
    · exact (cur.setIfInBounds 2 (.slice (cutR q.A q.c k) (q.b.recs.length - k) (q.c - k))).setIfInBounds 0 (.int .i64 o)
    · exact heap_setCell_same _ g 0 _ _ _ (heap_setCell_same w g 2 _ _ _ hh)
    · simpa using hs
    · have h1 := List.take_append_drop ((q :: qs).length * 3) cur.toList
      obtain ⟨tl, htl⟩ : ∃ tl, cur.toList.drop ((q :: qs).length * 3) = tl := ⟨_, rfl⟩
      rw [ht, htl] at h1
      have e1 : cur.toList = .int .i64 q.b.base :: .int .i64 q.b.epoch :: .slice q.A q.b.recs.length q.c :: (qs.flatMap PBat.cells ++ tl) := by
        rw [← h1]
        simp [PBat.cells]
      rw [Array.toList_setIfInBounds, Array.toList_setIfInBounds, e1]
      simp only [List.set_cons_succ, List.set_cons_zero, List.flatMap_cons, PBat.cells, cutB, List.length_cons, List.length_drop, List.cons_append, List.nil_append]
      rw [show (qs.length + 1) * 3 = (qs.flatMap PBat.cells).length + 1 + 1 + 1 by rw [bcells_len]; omega]
      simp
    · have key : ∀ x ∈ q :: qs, ∃ l0 wk, lo ≤ l0 ∧ NewBat l0 wk x.A x.c x.b ∧ Above l0 wk ((w.setCell ⟨g, 2, none⟩ (.slice (cutR q.A q.c k) (q.b.recs.length - k) (q.c - k))).setCell ⟨g, 0, none⟩ (.int .i64 o)) ∧ ∀ k, v.ownBlock = some k → k < l0 ∨ wk.heap.size ≤ k := fun x hx => by
        obtain ⟨l0, wk, h0, h1, h2, h3⟩ := h.el x hx
        have hgo := h3 g (by rw [e]; rfl)
        exact ⟨l0, wk, h0, h1, (h2.setC g 2 _ hgo).setC g 0 _ hgo, h3⟩
      rcases List.mem_cons.1 hx with rfl | hx
      · obtain ⟨l0, wk, h0, h1, h2, h3⟩ := key q List.mem_cons_self
        exact ⟨l0, wk, h0, h1.cut o k hk ho, h2, h3⟩
      · exact key x (List.mem_cons_of_mem _ hx)
end Go.Proofs.YtcmgppacipdnaaaGreatDoor

namespace Go.Proofs.YtcmgppacipdnaaaGreatDoor
open Go.RowKit Go.Maps Go.Sort Go.Shelf

theorem BRow.join {w w' : World} {lo lo2 : Nat} {v v' v2 : Value} {qs1 qs2 : List PBat} (h1 : BRow w lo v qs1) (h2 : BRow w lo2 v2 qs2) (hlo : lo ≤ lo2) (hsep : ∀ k, v.ownBlock = some k → k < lo2) (hg : w.grownBy w' v.ownBlock) (hv : v'.ownBlock = v.ownBlock ∨ v'.ownBlock = some w.heap.size)
    (ho : w'.ownsRow lo 36 3 v' (qs1.length + qs2.length) (qs1.flatMap PBat.cells ++ qs2.flatMap PBat.cells)) : BRow w' lo v' (qs1 ++ qs2) := by
  have key : ∀ (x : PBat), (∃ l0 wk, lo ≤ l0 ∧ NewBat l0 wk x.A x.c x.b ∧ Above l0 wk w ∧ ∀ k, v.ownBlock = some k → k < l0 ∨ wk.heap.size ≤ k) → ∃ l0 wk, lo ≤ l0 ∧ NewBat l0 wk x.A x.c x.b ∧ Above l0 wk w' ∧ ∀ k, v'.ownBlock = some k → k < l0 ∨ wk.heap.size ≤ k := by
    rintro x ⟨m0, mk, g0, g1, g2, g3⟩
    refine ⟨m0, mk, g0, g1, ⟨Nat.le_trans g2.size hg.size, fun k hk hl => ?_⟩, fun k hk => ?_⟩
    · have hne : some k ≠ v.ownBlock := fun e => by
        rcases g3 k e.symm with h | h <;> omega
      exact (hg.block k (Nat.lt_of_lt_of_le hl g2.size) hne).trans (g2.block k hk hl)
    · rcases hv with e | e
      · exact g3 k (e.symm.trans hk)
      · rw [e] at hk
        injection hk with hk
        have := g2.size
        exact .inr (by omega)
  refine ⟨by rw [List.length_append, List.flatMap_append]; exact ho, fun x hx => ?_⟩
  rcases List.mem_append.1 hx with hx | hx
  · exact key x (h1.el x hx)
  · obtain ⟨l0, wk, g0, g1, g2, -⟩ := h2.el x hx
    exact key x ⟨l0, wk, by omega, g1, g2, fun k hk => .inl (by have := hsep k hk; omega)⟩
theorem bcells_one (qs : List PBat) : ∀ u ∈ qs.flatMap PBat.cells, u.oneCell' = true := fun u hu => by
  obtain ⟨q, _, hu⟩ := List.mem_flatMap.1 hu
  exact q.cells_one u hu
section
variable {w : World} {ops : Array Oper} {rest : List Oper} {o : Oper} {a : Act} {Q : Exit → Act → World → Prop}
/-- append(l, behind...), both rows of batches of one's own. -/
theorem wpList_appB (hgd : o.guard = none) (s x : Operand) (ho : o.op = .call { callee := .builtin .append, args := #[s, x], argTypes := #[26, 26] })
    (lo lo2 : Nat) (v v2 : Value) (qs1 qs2 : List PBat) (hs : a.eval s = v) (hx : a.eval x = v2) (h1 : BRow w lo v qs1) (h2 : BRow w lo2 v2 qs2) (hlo : lo ≤ lo2) (hsep : ∀ k, v.ownBlock = some k → k < lo2) (hlen : qs1.length + qs2.length ≤ 1000000) (hbase : lo ≤ w.heap.size)
    (h : ∀ v' w', BRow w' lo v' (qs1 ++ qs2) → w.grownBy w' v.ownBlock → wpList Tryz.prog ops Q rest (a.put o.dst v') w') : wpList Tryz.prog ops Q (o :: rest) a w := by
  obtain ⟨i, hi, hz, hs1, hby⟩ := info_parts batch_info
  have key : ∃ v' w', (Builtin.append_ #[26, 26] o.type #[v, v2]).run Tryz.prog w = .ok v' w' ∧ BRow w' lo v' (qs1 ++ qs2) ∧ w.grownBy w' v.ownBlock := by
    rcases h2.own.2 with ⟨rfl, h0⟩ | ⟨g, cap, cur, rfl, hg, hh, hn, hm, hsz, ht⟩
    · have e0 : qs2 = [] := List.eq_nil_of_length_eq_zero h0
      subst e0
      refine ⟨v, w, ?_, by simpa using h1, World.grownBy.refl w _⟩
      have u := Tryz.underlying26
      rcases h1.own.2 with ⟨rfl, _⟩ | ⟨g, cap, cur, rfl, _, _, hnc, _⟩
      · simp [Builtin.append_, run_underlying u, sizeOf, typeInfo, hi, Builtin.lenOf, Builtin.firstCells]
      · simp [Builtin.append_, run_underlying u, sizeOf, typeInfo, hi, Builtin.lenOf, Builtin.firstCells, hnc, storeCells]
    · obtain ⟨v', w', hrun, r2, r3, _, r5⟩ := run_append_own_at (P := Tryz.prog) w lo 26 o.type 36 i _ 3 40 Tryz.underlying26 hi hz hs1 hby rfl (by omega) v qs1.length _ h1.own ⟨g, 0, none⟩ qs2.length cap (qs2.flatMap PBat.cells) (bcells_len _)
        (fun j u hu => h2.own.cells (g := g) rfl j u hu) (bcells_one _) (by simp only [maxLen]; omega) (by omega) hbase
      exact ⟨v', w', hrun, h1.join h2 hlo hsep r3 r5 r2, r3⟩
  obtain ⟨v', w', hrun, k1, k2⟩ := key
  refine wpList_plain hgd fun K hK => ?_
  unfold Oper.wp execOp
  simp only [ho, resolve, invoke, builtin, Sem.run_bind, Sem.run_pure, Result.andThen_ok, List.map_toArray, List.map_cons, List.map_nil, hs, hx, hrun]
  exact hK _ _ (h v' w' k1 k2)
end

set_option maxRecDepth 100000 in
theorem read1_any (B1 B2 : Nat) (bg mo : Int) (a b c d : Int) (w : World) (c1 : w.cell? ⟨B1, 0, none⟩ = some (.int .i64 bg)) (c2 : w.cell? ⟨B2, 0, none⟩ = some (.int .i64 mo)) (hb : -9223372036854775808 ≤ b - bg ∧ b - bg ≤ 9223372036854775807) :
    Calls Tryz.prog 101 #[.agg #[.int .i64 a, .int .i64 b, .int .i64 c, .int .i64 d], .pointer (some ⟨B1, 0, none⟩), .pointer (some ⟨B2, 0, none⟩)] w fun e w' => e = .returned (.bool (decide (mo < b - bg))) ∧ w' = w.alloc (.cells #[.int .i64 a, .int .i64 b, .int .i64 c, .int .i64 d] 138) := by
  have h1 : B1 < w.heap.size := World.block_lt_of_cell? _ _ c1
  have h2 : B2 < w.heap.size := World.block_lt_of_cell? _ _ c2
  have k1 : (w.alloc (.cells #[.int .i64 a, .int .i64 b, .int .i64 c, .int .i64 d] 138)).cell? ⟨B1, 0, none⟩ = some (.int .i64 bg) := ((balloc (Below.refl w.heap.size w) _).cell (p := ⟨B1, 0, none⟩) h1).trans c1
  have k2 : (w.alloc (.cells #[.int .i64 a, .int .i64 b, .int .i64 c, .int .i64 d] 138)).cell? ⟨B2, 0, none⟩ = some (.int .i64 mo) := ((balloc (Below.refl w.heap.size w) _).cell (p := ⟨B2, 0, none⟩) h2).trans c2
  have hw : IntKind.i64.wrap (b - bg) = b - bg := by rw [IntKind.wrap_i64]; omega
  go_enter Tryz.func101, Tryz.ntmps101
  go_wp2_with fail
  go_ret
  exact ⟨rfl, rfl⟩
end Go.Proofs.YtcmgppacipdnaaaGreatDoor

namespace Go.Proofs.YtcmgppacipdnaaaGreatDoor
open Go.RowKit Go.Maps Go.Sort Go.Shelf

/-- What a read that is answered goes by: the batch that has the offset, how many of its records are ahead of it, how far it goes, and what follows. -/
structure ReadH (d : Dk.St) (s : Sg.St) (o most : Int) (at_ q f fin : Nat) (b0 : Rc.Bat) (ys : List Rc.Bat) : Prop where
  lo : (Sg.ed s.edges 0).off ≤ o
  hi : o < (Sg.last s.edges).off
  offs : ∀ a b, a ≤ b → b < s.edges.length → (Sg.ed s.edges a).off ≤ (Sg.ed s.edges b).off
  poss : ∀ a b, a ≤ b → b < s.edges.length → (Sg.ed s.edges a).pos ≤ (Sg.ed s.edges b).pos
  cnt : Sg.cnt s.edges (fun e => decide (o < e.off)) = at_ + 1
  raw1 : ∃ l, sgRaw d s at_ (at_ + 1) = (none, l) ∧ Rc.all l = ([b0], l.length, 0) ∧ l.length ≤ 1000000
  lies1 : Lies s [b0] at_ (at_ + 1)
  qeq : o = b0.base + q
  qlt : q < b0.recs.length
  good : Rc.bad (cutB b0 o q) = 0
  size : (Rc.bytes (cutB b0 o q)).length ≤ 1000000
  cnt2 : Sg.cnt s.edges (fun e => decide (most < e.pos - ((Sg.ed s.edges (at_ + 1)).pos - (Rc.bytes (cutB b0 o q)).length))) = f
  feq : (fin : Int) = max ((at_ : Int) + 1) ((f : Int) - 1)
  raw2 : ∃ l, sgRaw d s (at_ + 1) fin = (none, l) ∧ Rc.all l = (ys, l.length, 0) ∧ l.length ≤ 1000000
  lies2 : Lies s ys (at_ + 1) fin

/-- A new box of a number, apart from what was. -/
def heldBox (lo : Nat) : Held (fun a b : World => Below a.heap.size a b) :=
  ⟨fun v w => ∃ B, lo ≤ B ∧ v = .pointer (some ⟨B, 0, none⟩) ∧ w.heap[B]? = some (.cells #[.int .i64 0] 3 (0, 0)),
   fun _ _ _ ⟨B, h1, h2, h3⟩ hg => ⟨B, h1, h2, (hg.block B (Array.getElem?_eq_some_iff.1 h3).1).trans h3⟩⟩

set_option maxRecDepth 100000 in
set_option maxHeartbeats 4000000 in
theorem sgRead_good (w0 w : World) (S T : Nat → Prop) (n Bd X : Nat) (d : Dk.St) (s : Sg.St) (p : Nat → Addr) (h : SgW w0 S T n Bd d X s w) (hs : SentsG w0 p) (ht : Tabs w0) (hn : n ≤ 1000) (o most : Int) (ho : -9223372036854775808 ≤ o ∧ o ≤ 9223372036854775807) (at_ q f fin : Nat) (b0 : Rc.Bat) (ys : List Rc.Bat) (hr : ReadH d s o most at_ q f fin b0 ys) :
    Calls Tryz.prog 55 #[.pointer (some ⟨X, 0, none⟩), .int .i64 o, .int .i64 most] w fun e w' => ∃ v qs, e = .returned (.tuple #[v, .nilIface]) ∧ BRow w' w.heap.size v qs ∧ qs.map (·.b) = cutB b0 o q :: ys ∧ Below w.heap.size w w' := by
  have HH := hide h
  have HR := hide hr
  have hlen := h.ok.len
  have HBA := hide (fun (W : World) (hw : Below w.heap.size w W) => sgBase_any X Bd s T W (h.seg.below hw) h.ok)
  have HEN := hide (fun (W : World) (hw : Below w.heap.size w W) => sgEnd_any X Bd s T W (h.seg.below hw) h.ok)
  have HBF := hide (fun (W : World) (hw : Below w.heap.size w W) => sgBefore_any X Bd s T o W (h.seg.below hw) h.ok hr.offs)
  rw [hr.cnt, show (((at_ + 1 : Nat) : Int) - 1) = (at_ : Int) by omega] at HBF
  have HB1 := hide (fun (W : World) (hw : Below w.heap.size w W) => by
    obtain ⟨l, h1, h2, h3⟩ := hr.raw1
    exact sgBatches_any w0 W S T n Bd X d s p (h.grow hw) hs ht hn at_ (at_ + 1) [b0] l h1 h2 hr.lies1 h3)
  have HB2 := hide (fun (W : World) (hw : Below w.heap.size w W) => by
    obtain ⟨l, h1, h2, h3⟩ := hr.raw2
    exact sgBatches_any w0 W S T n Bd X d s p (h.grow hw) hs ht hn (at_ + 1) fin ys l h1 h2 hr.lies2 h3)
  have hat1 : at_ + 1 < s.edges.length := hr.lies1.lt
  have hfin := hr.lies2.lt
  have HFIN := hide hr.feq
  have HYL : Hid (ys.length ≤ 100000) := hide (by have := hr.lies2.len; omega)
  obtain ⟨v0, hl⟩ := h.seg
  have HSL := hide hl
  have d1 : decide (o < (Sg.ed s.edges 0).off) = false := decide_eq_false (by have := hr.lo; omega)
  have d2 : decide ((Sg.last s.edges).off ≤ o) = false := decide_eq_false (by have := hr.hi; omega)
  have hq1 : o - b0.base = (q : Int) := by have := hr.qeq; omega
  have hqlt := hr.qlt
  have hwat : IntKind.i64.wrap ((at_ : Int) + 1) = ((at_ + 1 : Nat) : Int) := by rw [IntKind.wrap_i64]; omega
  have HS5 := hide (fun (W : World) (hw : Below w.heap.size w W) => SentsG.two (hs.below (h.below.trans (hw.mono h.below.size))))
  have HCN := hide hr.cnt2
  have HPS := hide hr.poss
  have HSZ := hide hr.size
  have HGD := hide hr.good
  have HOK := hide h.ok
  have HPOS := hide h.ok.pos
  clear h hs ht hr hl
  generalize (Sg.ed s.edges 0).off = lo at *
  generalize (Sg.last s.edges).off = hi at *
  go_enter Tryz.func55, Tryz.ntmps55
  go_upto_region 7 with (first
    | (go_at_call 49; refine (HBA.out _ (balloc (Below.refl _ _) _)).mono ?_; rintro e w1 ⟨rfl, hb⟩; have HBW1 := hide ((balloc (Below.refl w.heap.size w) (.cells #[.int .i64 most] 3)).trans (hb.mono (by simp))); have HMO1 : Hid (w1.cell? ⟨w.heap.size, 0, none⟩ = some (.int .i64 most)) := hide ((hb.cell (p := ⟨w.heap.size, 0, none⟩) (by simp)).trans (cell_new_sl _ _ _)); have HZ1 : Hid (w.heap.size < w1.heap.size) := hide (by have := hb.size; simp at this; omega); clear hb)
    | (go_at_call 50; refine (HEN.out _ HBW1.out).mono ?_; rintro e w2 ⟨rfl, hb⟩; have HBW2 := hide (HBW1.out.trans (hb.mono HBW1.out.size)); have HMO2 := hide ((hb.cell (p := ⟨w.heap.size, 0, none⟩) HZ1.out).trans HMO1.out); have HZ2 := hide (Nat.lt_of_lt_of_le HZ1.out hb.size); clear hb)
    | (go_at_call 97; refine (HBF.out _ HBW2.out).mono ?_; rintro e w3 ⟨rfl, hb⟩; have HBW3 := hide (HBW2.out.trans (hb.mono HBW2.out.size)); have HMO3 := hide ((hb.cell (p := ⟨w.heap.size, 0, none⟩) HZ2.out).trans HMO2.out); have HZ3 := hide (Nat.lt_of_lt_of_le HZ2.out hb.size); clear hb)
    | (go_at_call 98; refine (HB1.out _ HBW3.out).mono ?_; rintro e w4 ⟨v4, qs4, rfl, hr4, hq4, hb⟩; have HBW4 := hide (HBW3.out.trans (hb.mono HBW3.out.size)); have HMO4 := hide ((hb.cell (p := ⟨w.heap.size, 0, none⟩) HZ3.out).trans HMO3.out); have HZ4 := hide (Nat.lt_of_lt_of_le HZ3.out hb.size); have HR4 := hide hr4; have HQ4 := hide hq4; clear hb hr4 hq4)
    | fail)
  obtain ⟨q0, rfl, hqb⟩ : ∃ q0, qs4 = [q0] ∧ q0.b = b0 := by
    have h := HQ4.out
    match qs4, h with
    | [], h => simp at h
    | [q0], h => exact ⟨q0, rfl, by simpa using h⟩
    | _ :: _ :: _, h => simp at h
  obtain ⟨g, cap, e4, hglo, hgl, c0, c1, c2, f0, f2, hcap, hbt⟩ := HR4.out.turn o q (by rw [hqb]; exact hqlt) ho
  obtain ⟨hrl, hrm⟩ : b0.recs.length ≤ q0.c ∧ q0.c ≤ 9223372036854775807 := by
    obtain ⟨l0, wk, _, h1, h2, _⟩ := HR4.out.el q0 (by simp)
    have := h1 w4 h2
    rw [hqb] at this
    exact ⟨this.le, this.max⟩
  subst e4
  rw [hqb] at c0 c1 c2 hbt
  have HT4 := hide hbt
  have kcut : ∀ W, (Instr.sliceAt 34 (.slice q0.A b0.recs.length q0.c) (some (.int .i64 (q : Int))) none none).run Tryz.prog W = .ok (.slice (cutR q0.A q0.c q) (b0.recs.length - q) (q0.c - q)) W := fun W => run_cut_rec W q0.A b0.recs.length q0.c q (by omega) hrl
  have hwq : IntKind.i64.wrap (o - b0.base) = (q : Int) := by rw [hq1, IntKind.wrap_i64]; omega
  have hgB : g ≠ w.heap.size := by have h1 := hglo; have := HBW3.out.size; have := HZ3.out; omega
  clear hbt hq1
  generalize hnr : b0.recs.length = nr at *
  generalize b0.base = ba at *
  generalize hAc : cutR q0.A q0.c q = Ac at *
  go_still_tail 14, (by kernel_rfl)
  change wpList _ _ _ _ _ w4.drew
  go_upto_region 9 with fail
  have HT6 := hide (HT4.out.below (Below.refl _ _).drew)
  have HBW6 : Hid (Below w.heap.size w ((w4.setCell ⟨g, 2, none⟩ (.slice Ac (nr - q) (q0.c - q))).setCell ⟨g, 0, none⟩ (.int .i64 o)).drew) := hide ((HBW4.out.setCell (p := ⟨g, 2, none⟩) (by have := HBW3.out.size; show _ ≤ g; omega) _).setCell (p := ⟨g, 0, none⟩) (by have := HBW3.out.size; show _ ≤ g; omega) _).drew
  have HMO6 : Hid (((w4.setCell ⟨g, 2, none⟩ (.slice Ac (nr - q) (q0.c - q))).setCell ⟨g, 0, none⟩ (.int .i64 o)).drew.cell? ⟨w.heap.size, 0, none⟩ = some (.int .i64 most)) := hide ((World.cell?_setCell_other _ _ _ _ (by simp)).trans ((World.cell?_setCell_other _ _ _ _ (by simp)).trans HMO4.out))
  have hzW : w4.heap.size ≤ ((w4.setCell ⟨g, 2, none⟩ (.slice Ac (nr - q) (q0.c - q))).setCell ⟨g, 0, none⟩ (.int .i64 o)).drew.heap.size := by simp
  generalize ((w4.setCell ⟨g, 2, none⟩ (.slice Ac (nr - q) (q0.c - q))).setCell ⟨g, 0, none⟩ (.int .i64 o)).drew = W6 at *
  have HZ6 : Hid (w.heap.size < W6.heap.size ∧ g < W6.heap.size) := hide ⟨by have := HZ4.out; omega, by omega⟩
  have hrow6 : ∀ j u, (PBat.cells ⟨cutB b0 o q, Ac, q0.c - q⟩)[j]? = some u → W6.cell? ⟨g, j, none⟩ = some u := fun j u hu => by
    have h := HT6.out.own.cells (g := g) rfl j u (by simpa using hu)
    rwa [Addr.add_lit, Nat.zero_add] at h
  have k0 : W6.cell? ⟨g, 0, none⟩ = some (.int .i64 o) := hrow6 0 _ rfl
  have k1 : W6.cell? ⟨g, 1, none⟩ = some (.int .i64 b0.epoch) := hrow6 1 _ rfl
  have k2 : W6.cell? ⟨g, 2, none⟩ = some (.slice Ac (nr - q) (q0.c - q)) := by
    have h := hrow6 2 _ rfl
    simp only [cutB, List.length_drop, hnr] at h
    exact h
  have HIB : Hid (∀ W, Below W6.heap.size W6 W → IsBat W Ac (q0.c - q) (cutB b0 o q)) := hide (fun W hw => by
    obtain ⟨l0, wk, _, h1, h2, _⟩ := HT6.out.el ⟨cutB b0 o q, Ac, q0.c - q⟩ (by simp)
    exact h1 W (h2.trans (Above.of_below hw)))
  have hlc : (cutB b0 o q).recs.length = nr - q := by simp only [cutB, List.length_drop, hnr]
  have HSZE := hide (fun (W : World) (hw : Below W6.heap.size W6 W) => size_any_bat (cutB b0 o q) Ac (q0.c - q) (nr - q) W p (HIB.out W hw) (HS5.out W (HBW6.out.trans (hw.mono HBW6.out.size))) hlc)
  rw [if_pos HGD.out] at HSZE
  obtain ⟨Ae, ce, e6, heg, -, -, -, x3, -⟩ := (HSL.out.below HBW6.out).cells
  obtain ⟨ge, rfl, hge, -, kp, -, -⟩ := heg.at_ (at_ + 1) hat1
  have hpe := HPOS.out _ (Sg.ed_mem hat1)
  have hX6 := (HSL.out.below HBW6.out).lt
  have hece := heg.le
  have hszb := HSZ.out
  have HB6R := hide (fun (W : World) (hw : Below W6.heap.size W6 W) => HBW6.out.trans (hw.mono HBW6.out.size))
  unfold batV at HSZE
  rw [show (cutB b0 o q).base = o from rfl, show (cutB b0 o q).epoch = b0.epoch from rfl] at HSZE
  generalize (Rc.bytes (cutB b0 o q)).length = sz at *
  generalize b0.epoch = ep at *
  generalize nr - q = nq at *
  generalize q0.c - q = cq at *
  obtain ⟨pe, hpee⟩ : ∃ pe, pe = (Sg.ed s.edges (at_ + 1)).pos := ⟨_, rfl⟩
  rw [← hpee] at kp hpe HCN
  obtain ⟨at1, hat⟩ : ∃ at1, at1 = at_ + 1 := ⟨_, rfl⟩
  rw [← hat] at kp hwat hat1 HB2
  obtain ⟨m, hm⟩ : ∃ m, m = s.edges.length := ⟨_, rfl⟩
  rw [← hm] at x3 hat1 hece hlen hfin
  have HM := hide hm
  have HAT := hide hat
  have HPE := hide hpee
  have hwp : IntKind.i64.wrap (pe - (sz : Int)) = pe - sz := by rw [IntKind.wrap_i64]; omega
  clear hrow6 heg e6 hm hat hpee hlc kcut f0 f2 c0 c1 c2
  have hz6g := HZ6.out.2
  refine wp_region_store (G := fun a b : World => Below a.heap.size a b) ⟨fun w => Below.refl _ w, fun h k => h.trans (k.mono h.size)⟩ [57, 58, 59, 60, 61, 62, 63, 64, 65, 66, 67, 68, 69, 70, 11] (fun d => match d with
    | 57 => .is (.pointer (some ⟨X, 0, none⟩)) | 58 => .is (.pointer (some ⟨X, 0, none⟩)) | 59 => .is (.pointer (some ⟨X, 3, none⟩)) | 60 => .is (.slice (some ⟨ge, 0, none⟩) m ce) | 61 => .is (.int .i64 at_) | 62 => .is (.int .i64 at1) | 63 => .is (.pointer (some ⟨ge, at1 * 4, none⟩)) | 64 => .is (.pointer (some ⟨ge, at1 * 4 + 1, none⟩)) | 65 => .is (.int .i64 pe) | 66 => .is (.slice (some ⟨g, 0, none⟩) 1 cap) | 67 => .is (.pointer (some ⟨g, 0, none⟩)) | 68 => .is (.agg #[.int .i64 o, .int .i64 ep, .slice Ac nq cq]) | 69 => .is (.int .i64 sz) | 70 => .is (.int .i64 (pe - sz)) | _ => heldBox W6.heap.size) _ (by kernel_rfl) (by kernel_rfl) rfl (by kernel_rfl) ?_ ?_
  · simp only [List.size_toArray, List.length_cons, List.length_nil, List.take_succ_cons, List.take_zero, StepsH]
    refine ⟨?_, ?_, ?_, ?_, ?_, ?_, ?_, ?_, ?_, ?_, ?_, ?_, ?_, ?_, ?_, trivial⟩
    all_goals
      intro ev w7 hb hev hd
      have ev0 : ev (.tmp 0) = .pointer (some ⟨X, 0, none⟩) := hev _ (by simp)
      have ev8 : ev (.tmp 8) = .int .i64 at_ := hev _ (by simp)
      have ev9 : ev (.tmp 9) = .slice (some ⟨g, 0, none⟩) 1 cap := hev _ (by simp)
      have evf : ∀ f, ev (.func f) = .func (.func f) #[] #[] := fun f => hev _ (by simp)
      have evc : ∀ c, ev (.const c) = c := fun c => hev _ (by simp)
      have j3 := (hb.cell (p := ⟨X, 3, none⟩) hX6).trans x3
      have jp := (hb.cell (p := ⟨ge, at1 * 4 + 1, none⟩) hge).trans kp
      have j0 := (hb.cell (p := ⟨g, 0, none⟩) hz6g).trans k0
      have j1 := (hb.cell (p := ⟨g, 1, none⟩) hz6g).trans k1
      have j2 := (hb.cell (p := ⟨g, 2, none⟩) hz6g).trans k2
      have HB7 := hide ((Below.refl W6.heap.size W6).drew.trans hb)
      clear hev hb x3 kp k0 k1 k2
      simp [DepsG, Held.is] at hd
      try simp [OpRuns, execOp, go_sem, Held.is, Below.refl, *]
    · exact HSZE.out w7 HB7.out
    · exact ⟨balloc (Below.refl _ _) _, w7.heap.size, HB7.out.size, rfl, heap_alloc_new _ _⟩
  · intro f' w9 hb hf
    have e70 : f' 70 = .int .i64 (pe - sz) := hf 70 (by simp)
    obtain ⟨B, hB1, e11, hB3⟩ : ∃ B, W6.heap.size ≤ B ∧ f' 11 = .pointer (some ⟨B, 0, none⟩) ∧ w9.heap[B]? = some (.cells #[.int .i64 0] 3 (0, 0)) := hf 11 (by simp)
    have r0 : w9.cell? ⟨B, 0, none⟩ = some (.int .i64 0) := box_cell hB3 0
    have rf : w9.frozen? ⟨B, 0, none⟩ = false := box_free hB3 0
    have hb9 : Below W6.heap.size W6 (w9.setCell ⟨B, 0, none⟩ (.int .i64 (pe - sz))) := ((Below.refl W6.heap.size W6).drew.trans hb).setCell (p := ⟨B, 0, none⟩) hB1 _
    have HB9 := hide hb9
    have HBG : Hid ((w9.setCell ⟨B, 0, none⟩ (.int .i64 (pe - sz))).cell? ⟨B, 0, none⟩ = some (.int .i64 (pe - sz))) := hide (World.cell?_setCell_same _ _ _ r0)
    clear hf hb hb9 x3 kp k0 k1 k2 hB3
    simp only [puts, Act.put, List.setIfInBounds_toArray, List.set_cons_succ, List.set_cons_zero]
    rw [e70, e11]
    clear e70 e11
    generalize f' 57 = z57
    generalize f' 58 = z58
    generalize f' 59 = z59
    generalize f' 60 = z60
    generalize f' 61 = z61
    generalize f' 62 = z62
    generalize f' 63 = z63
    generalize f' 64 = z64
    generalize f' 65 = z65
    generalize f' 66 = z66
    generalize f' 67 = z67
    generalize f' 68 = z68
    generalize f' 69 = z69
    clear f'
    go_upto_region 10 with fail
    generalize w9.setCell ⟨B, 0, none⟩ (.int .i64 (pe - sz)) = W9 at *
    have hz9 : W6.heap.size ≤ W9.heap.size := HB9.out.size
    have HB9w := hide (HBW6.out.trans (HB9.out.mono HBW6.out.size))
    have HMO9 : Hid (W9.cell? ⟨w.heap.size, 0, none⟩ = some (.int .i64 most)) := hide ((HB9.out.cell (p := ⟨w.heap.size, 0, none⟩) HZ6.out.1).trans HMO6.out)
    have hB9 : B < W9.heap.size := World.block_lt_of_cell? _ _ HBG.out
    have hz69 : w.heap.size < W9.heap.size := by have := HZ6.out.1; omega
    have HU := hide (until_any X Bd 101 #[.pointer (some ⟨B, 0, none⟩), .pointer (some ⟨w.heap.size, 0, none⟩)] (fun e => decide (most < e.pos - (pe - sz))) s T W9 ⟨v0, HSL.out.below HB9w.out⟩ HOK.out (enters_of Tryz.func101 (by kernel_rfl) rfl)
      (fun W hw e hep => (read1_any B w.heap.size (pe - sz) most e.off e.pos e.ep e.time W ((hw.cell (p := ⟨B, 0, none⟩) hB9).trans HBG.out) ((hw.cell (p := ⟨w.heap.size, 0, none⟩) hz69).trans HMO9.out) (by omega)).mono fun r w' ⟨h1, h2⟩ => ⟨h1, 0, #[.cells #[.int .i64 e.off, .int .i64 e.pos, .int .i64 e.ep, .int .i64 e.time] 138], by rw [h2]; rfl⟩)
      (fun a b hab hb ha => decide_eq_true (by have := of_decide_eq_true ha; have := HPS.out a b hab hb; omega)))
    rw [HCN.out] at HU
    have hcle : f ≤ s.edges.length := by rw [← HCN.out]; exact Sg.cnt_le _ _
    go_upto_region 11 with (first
      | (go_at_call 100; refine HU.out.mono ?_; rintro e w10 ⟨rfl, hb⟩; have HB10 := hide (HB9.out.trans (hb.mono HB9.out.size)); clear hb)
      | fail)
    obtain ⟨z, hz⟩ : ∃ z, z = (f : Int) - 1 := ⟨_, rfl⟩
    have hmx : max (at1 : Int) z = (fin : Int) := by
      have h1 := HFIN.out
      have h2 := HAT.out
      rw [hz, h1, h2]
      omega
    rw [← hz]
    clear hcle hz
    have hw3 := HBW3.out.size
    have hz66 := HZ6.out
    go_upto_region 14 with (first
      | (go_at_call 98; refine (HB2.out _ (HBW6.out.trans (HB10.out.mono HBW6.out.size))).mono ?_; rintro e w11 ⟨v11, ys11, rfl, hr11, hq11, hb⟩; have HB11 := hide (HB10.out.trans (hb.mono HB10.out.size)); have HR11 := hide hr11; have HQ11 := hide hq11; have HT11 := hide (HT6.out.below HB11.out); have hz10 := HB10.out.size; have hz11 := HB11.out.size; have hyl : ys11.length ≤ 100000 := (by have h := HYL.out; rw [← HQ11.out, List.length_map] at h; exact h); clear hb hr11 hq11)
      | fail)
    have t1 : w3.heap.size ≤ w10.heap.size := by omega
    have t2 : ∀ k, (Value.slice (some ⟨g, 0, none⟩) 1 cap).ownBlock = some k → k < w10.heap.size := by
      intro k hk
      obtain rfl : g = k := by simpa [Value.ownBlock] using hk
      omega
    have t2b : ∀ k, (Value.slice (some ⟨g, 0, none⟩) 1 cap).ownBlock = some k → w.heap.size ≤ k := by
      intro k hk
      obtain rfl : g = k := by simpa [Value.ownBlock] using hk
      omega
    have t3 : 0 + 1 + ys11.length ≤ 1000000 := by omega
    have t4 : w3.heap.size ≤ w11.heap.size := by omega
    have t5 : w.heap.size ≤ w11.heap.size := by omega
    go_wp2_with (first
      | (at_builtin; refine wpList_appB (w := w11) rfl (.tmp 88) (.tmp 89) rfl w3.heap.size w10.heap.size _ v11 _ ys11 rfl rfl HT11.out HR11.out t1 t2 t3 t4 ?_; intro v12 w12 hr12 hg12; have HR12 := hide (hr12.mono hw3); have HB12 := hide ((HBW6.out.trans (HB11.out.mono HBW6.out.size)).grown hg12 t5 t2b); clear hr12 hg12)
      | fail)
    go_ret2
    exact ⟨v12, _, rfl, HR12.out, by simp [HQ11.out], HB12.out⟩
end Go.Proofs.YtcmgppacipdnaaaGreatDoor

namespace Go.Proofs.YtcmgppacipdnaaaGreatDoor
open Go.RowKit Go.Shelf Go.Sort

theorem Sg.Ok.cut {s : Sg.St} (h : Sg.Ok s) (k : Nat) (hk : 1 ≤ k) : Sg.Ok { s with edges := s.edges.take k } :=
  have hm : ∀ e ∈ s.edges.take k, e ∈ s.edges := fun _ he => List.mem_of_mem_take he
  ⟨fun e => by
    have h1 := List.length_pos_iff.2 h.ne
    have h2 := congrArg List.length e
    simp only [List.length_take, List.length_nil] at h2
    omega, by have := h.len; simp only [List.length_take]; omega, fun e he => h.off e (hm e he), fun e he => h.pos e (hm e he), fun e he => h.ep e (hm e he), fun e he => h.time e (hm e he), h.every⟩
end Go.Proofs.YtcmgppacipdnaaaGreatDoor

namespace Go.Proofs.YtcmgppacipdnaaaGreatDoor

namespace Vi
end Vi

namespace Rc
/-! The reference's way: greater steps. -/
def rstep (l : List UInt8) (s : Vi.Rs) (t : Int) : Rec × Vi.Rs := step1 l s t 1125899906842624
def rloop (l : List UInt8) (many : Nat) : Nat → Vi.Rs → Int → List Rec → List Rec × Vi.Rs
  | 0, s, _, acc => (acc, s)
  | f + 1, s, t, acc =>
    if acc.length < many ∧ acc.length ≤ 64 ∧ s.code = 0 then rloop l many f (rstep l s t).2 (rstep l s t).1.t (acc ++ [(rstep l s t).1]) else (acc, s)
end Rc
end Go.Proofs.YtcmgppacipdnaaaGreatDoor
