/-
  A log of segments: Segs.
  The edges of a segment made of batches: their offsets and places rise.
  What a segment comes to behind the first j batches.
  Package seg: Index.
-/
import Derived.Test.YtcmgppacipdnaaaGreatDoorQHtN
import Derived.Test.YtcmgppacipdnaaaGreatDoorQSgO
import Derived.Test.YtcmgppacipdnaaaGreatDoorQSgN
import Derived.Test.YtcmgppacipdnaaaGreatDoorQIxP
namespace Go.Proofs.YtcmgppacipdnaaaGreatDoor
open Go.RowKit Go.Maps

abbrev triC (g : Ht.Gr) : List Value := [.int .i64 g.1, .int .i64 (Ht.lastOff g.1 g.2), .int .i64 (Ht.size g.2 : Nat)]
theorem tri_info : (Tryz.prog.info? 37).map (fun i => (i.zero, i.size, i.bytes)) = some (some (.agg #[.int .i64 0, .int .i64 0, .int .i64 0]), 3, 24) := by kernel_rfl
/-- A row of what Segs tells. -/
def OwnTri (w : World) (base : Nat) (v : Value) (l : List Ht.Gr) : Prop := w.ownsRow base 37 3 v l.length (l.flatMap triC)
theorem tris_at : ∀ (l : List Ht.Gr) (k : Nat), k < l.length → (l.flatMap triC)[k * 3]? = some (.int .i64 (l.getD k (0, [])).1) ∧ (l.flatMap triC)[k * 3 + 1]? = some (.int .i64 (Ht.lastOff (l.getD k (0, [])).1 (l.getD k (0, [])).2)) ∧ (l.flatMap triC)[k * 3 + 2]? = some (.int .i64 (Ht.size (l.getD k (0, [])).2 : Nat))
  | m :: l, 0, _ => ⟨rfl, rfl, rfl⟩
  | m :: l, k + 1, hk => by
    obtain ⟨h1, h2, h3⟩ := tris_at l k (by simp at hk; omega)
    have e : (m :: l).getD (k + 1) (0, []) = l.getD k (0, []) := rfl
    rw [e]
    simp only [List.flatMap_cons]
    rw [List.getElem?_append_right (by simp; omega), List.getElem?_append_right (by simp; omega), List.getElem?_append_right (by simp; omega)]
    simp only [List.length_cons, List.length_nil]
    rw [show (k + 1) * 3 - (0 + 1 + 1 + 1) = k * 3 by omega, show (k + 1) * 3 + 1 - (0 + 1 + 1 + 1) = k * 3 + 1 by omega, show (k + 1) * 3 + 2 - (0 + 1 + 1 + 1) = k * 3 + 2 by omega]
    exact ⟨h1, h2, h3⟩
/-- The row as it is read. -/
structure TriAt (w : World) (A : Option Addr) (c : Nat) (l : List Ht.Gr) : Prop where
  le : l.length ≤ c
  mx : c ≤ 9223372036854775807
  at_ : ∀ k, k < l.length → ∃ g, A = some ⟨g, 0, none⟩ ∧ g < w.heap.size ∧ w.cell? ⟨g, k * 3, none⟩ = some (.int .i64 (l.getD k (0, [])).1) ∧ w.cell? ⟨g, k * 3 + 1, none⟩ = some (.int .i64 (Ht.lastOff (l.getD k (0, [])).1 (l.getD k (0, [])).2)) ∧ w.cell? ⟨g, k * 3 + 2, none⟩ = some (.int .i64 (Ht.size (l.getD k (0, [])).2 : Nat))
theorem OwnTri.reads {w : World} {base : Nat} {v : Value} {l : List Ht.Gr} (h : OwnTri w base v l) : ∃ A c, v = .slice A l.length c ∧ TriAt w A c l := by
  rcases h.2 with ⟨e, k0⟩ | ⟨g, cap, cur, e, _, hh, hcap, hmx, _⟩
  · exact ⟨_, _, by rw [e, k0], by omega, by omega, fun k hk => by omega⟩
  · refine ⟨_, _, e, by omega, by simp only [maxLen] at hmx; omega, fun k hk => ⟨g, rfl, (Array.getElem?_eq_some_iff.1 hh).1, ?_⟩⟩
    have hc := World.ownsRow.cells (g := g) h (by rw [e]; rfl)
    obtain ⟨k1, k2, k3⟩ := tris_at l k hk
    refine ⟨?_, ?_, ?_⟩
    · have := hc _ _ k1; rwa [Addr.add_lit, Nat.zero_add] at this
    · have := hc _ _ k2; rwa [Addr.add_lit, Nat.zero_add] at this
    · have := hc _ _ k3; rwa [Addr.add_lit, Nat.zero_add] at this
theorem TriAt.below {w w' : World} {A : Option Addr} {c : Nat} {l : List Ht.Gr} (h : TriAt w A c l) (hb : Below w.heap.size w w') : TriAt w' A c l :=
  ⟨h.le, h.mx, fun k hk => by
    obtain ⟨g, e, hg, h0, h1, h2⟩ := h.at_ k hk
    exact ⟨g, e, Nat.lt_of_lt_of_le hg hb.size, (hb.cell (p := ⟨g, k * 3, none⟩) hg).trans h0, (hb.cell (p := ⟨g, k * 3 + 1, none⟩) hg).trans h1, (hb.cell (p := ⟨g, k * 3 + 2, none⟩) hg).trans h2⟩⟩
set_option maxRecDepth 100000 in
set_option maxHeartbeats 1000000 in
theorem htSegs_A {w0 w : World} {U : Nat → Prop} {n Bd H : Nat} {sz ev room : Int} {gs : List Ht.Gr} (h : HtA w0 U n Bd H sz ev room gs w) (hl : gs.length ≤ 10000) :
    Calls Tryz.prog 19 #[.pointer (some ⟨H, 0, none⟩)] w fun e w' => ∃ v, e = .returned v ∧ OwnTri w' w.heap.size v gs ∧ Below w.heap.size w w' := by
  obtain ⟨d, S, C, vs, vb, qs, names, h2, g, h3, rfl⟩ := h
  have hqg : qs.length = gs.length := by rw [← h3, List.length_map]
  obtain ⟨A, c, A', c', rfl, rfl, hq, -, -, -, -, c3, -⟩ := h2.cells
  have HQ := hide hq
  have hval : ∀ k, k < gs.length → ∃ q ∈ qs, qs.getD k default = q ∧ gs.getD k (0, []) = (q.base, q.bs) := fun k hk => by
    refine ⟨qs.getD k default, ?_, rfl, ?_⟩
    · rw [show qs.getD k default = qs[k]'(by omega) from by simp [List.getD, show k < qs.length by omega]]
      exact List.getElem_mem _
    · rw [← h3]
      simp [List.getD, show k < qs.length by omega]
  have HB := hide (fun (k : Nat) (hk : k < gs.length) (W : World) (hw : Below w.heap.size w W) => by
    obtain ⟨q, hq2, e1, e2⟩ := hval k hk
    obtain ⟨k1, k2, -, -⟩ := h2.each q hq2
    have hm := g.mz q hq2
    have a1 := sgBase_any q.X Bd q.s q.T W (k1.below hw) k2
    have a2 := sgEnd_any q.X Bd q.s q.T W (k1.below hw) k2
    have a3 := sgSize_any q.X Bd q.s q.T W (k1.below hw) k2
    rw [show (Sg.ed q.s.edges 0).off = q.base from by rw [hm.edges, Sg.adds_ed _ _ 0 (by simp [Sg.begin])]; rfl] at a1
    rw [hm.lastOff.1] at a2
    rw [hm.pos] at a3
    exact (⟨by rw [e1, e2]; exact a1, by rw [e1, e2]; exact a2, by rw [e1, e2]; exact a3⟩ : Calls Tryz.prog 49 #[.pointer (some ⟨(qs.getD k default).X, 0, none⟩)] W (fun e w' => e = .returned (.int .i64 (gs.getD k (0, [])).1) ∧ Below W.heap.size W w') ∧
      Calls Tryz.prog 50 #[.pointer (some ⟨(qs.getD k default).X, 0, none⟩)] W (fun e w' => e = .returned (.int .i64 (Ht.lastOff (gs.getD k (0, [])).1 (gs.getD k (0, [])).2)) ∧ Below W.heap.size W w') ∧
      Calls Tryz.prog 51 #[.pointer (some ⟨(qs.getD k default).X, 0, none⟩)] W (fun e w' => e = .returned (.int .i64 (Ht.size (gs.getD k (0, [])).2 : Nat)) ∧ Below W.heap.size W w')))
  rw [hqg] at c3
  have HLN := hide hqg
  have HGL := hide hl
  obtain ⟨N, hN⟩ : ∃ N, N = gs.length := ⟨_, rfl⟩
  rw [← hN] at c3 HGL HLN
  have HN := hide hN.symm
  have hgN : N ≤ 10000 := HGL.out
  clear h2 g h3 hq hval hqg hl hN
  go_enter Tryz.func19, Tryz.ntmps19
  go_wp2_with fail
  go_loopw [3, 11] (fun v i wr => ∃ k : Nat, k ≤ N ∧ i = .int .i64 k ∧ wr.ownsRow w.heap.size 37 3 v k ((gs.take k).flatMap triC) ∧ Below w.heap.size w wr) (fun _ i _ => N - (intOf i).toNat)
  case atStart => exact ⟨0, Nat.zero_le _, rfl, World.ownsRow_nil _ _ _ 3, Below.refl _ _⟩
  case round =>
    obtain ⟨k, hk, rfl, ho, hb⟩ := hrel
    have HO := hide ho
    have HBW := hide hb
    obtain ⟨Av, nv, cv, rfl⟩ := own_slice ho
    clear ho hb
    by_cases hlt : k < N
    · have hkg : k < gs.length := by rw [HN.out]; exact hlt
      obtain ⟨g0, hA, hg0, hcell⟩ := HQ.out.at_ k (by rw [HLN.out]; exact hlt)
      subst hA
      have hcell := (HBW.out.cell (p := ⟨g0, k, none⟩) hg0).trans hcell
      have HC := hide (fun (W : World) (hw : Below wr.heap.size wr W) => HB.out k hkg W (HBW.out.trans (hw.mono HBW.out.size)))
      have htk : gs.take (k + 1) = gs.take k ++ [gs.getD k (0, [])] := by
        rw [List.take_succ_eq_append_getElem hkg]
        simp [List.getD, hkg]
      have HTK := hide htk
      have HC63 := hide HQ.out.le
      have hcx : k < c := by have := HQ.out.le; rw [HLN.out] at this; omega
      have hcm := HQ.out.mx
      unfold hqV at hcell
      clear htk
      obtain ⟨gv, hgv⟩ : ∃ gv, gv = gs.getD k (0, []) := ⟨_, rfl⟩
      rw [← hgv] at HC HTK
      obtain ⟨ga, gb⟩ := gv
      generalize hlo : Ht.lastOff (ga, gb).1 (ga, gb).2 = lo at *
      generalize hsi : Ht.size (ga, gb).2 = si at *
      have HTR : Hid (triC (ga, gb) = [.int .i64 ga, .int .i64 lo, .int .i64 (si : Nat)]) := hide (by rw [← hlo, ← hsi])
      simp only at HC
      clear hlo hsi hgv
      generalize (qs.getD k default).X = Xk at *
      go_wp2_with (first
        | (go_at_call 49; refine (HC.out wr (Below.refl _ _)).1.mono ?_; rintro e w1 ⟨rfl, hb1⟩; have HB1 := hide hb1; clear hb1)
        | (go_at_call 50; refine (HC.out w1 HB1.out).2.1.mono ?_; rintro e w2 ⟨rfl, hb2⟩; have HB2 := hide (HB1.out.trans (hb2.mono HB1.out.size)); clear hb2)
        | (go_at_call 51; refine (HC.out w2 HB2.out).2.2.mono ?_; rintro e w3 ⟨rfl, hb3⟩; have HB3 := hide (HB2.out.trans (hb3.mono HB2.out.size)); clear hb3)
        | (at_builtin; refine wpList_appG (w := w3.alloc _) rfl 32 37 3 24 _ (by kernel_rfl) tri_info rfl (by omega) (.tmp 15) (.tmp 23) rfl w.heap.size _ k ((gs.take k).flatMap triC) rfl (ownsRow_same HO.out fun g hg => (HB3.out.trans ((balloc (Below.refl _ _) _).mono HB3.out.size)).block g (HO.out.lt g hg).2) ⟨w3.heap.size, 0, none⟩ 1 1 [.int .i64 ga, .int .i64 lo, .int .i64 (si : Nat)] rfl rfl (news3 (w := w3)) (by intro u hu; simp at hu; rcases hu with rfl | rfl | rfl <;> rfl) (by simp only [maxLen]; omega) (by omega) (by have h1 := HBW.out.size; have h2 := HB3.out.size; simp; omega) ?_; intro v4 w4 hown4 hg4 hv4; have HO4 := hide hown4; have HB4 : Hid (Below w.heap.size w w4) := hide ((HBW.out.trans ((HB3.out.trans ((balloc (Below.refl _ _) _).mono HB3.out.size)).mono HBW.out.size)).grown hg4 (by have h1 := HBW.out.size; have h2 := HB3.out.size; simp; omega) (fun g hg => (HO.out.lt g hg).1)); clear hown4 hg4 hv4)
        | fail)
      refine ⟨⟨k + 1, by omega, by simp, ?_, HB4.out⟩, by simp [intOf]; omega⟩
      rw [HTK.out, List.flatMap_append]
      simp only [List.flatMap_cons, List.flatMap_nil, List.append_nil]
      rw [HTR.out]
      exact HO4.out
    · obtain rfl : k = N := by omega
      go_wp2_with fail
      go_ret
      refine ⟨_, rfl, ?_, HBW.out⟩
      have h := HO.out
      rw [List.take_of_length_le (by have := HN.out; omega)] at h
      unfold OwnTri
      rw [HN.out]
      exact h
end Go.Proofs.YtcmgppacipdnaaaGreatDoor

namespace Go.Proofs.YtcmgppacipdnaaaGreatDoor
open Go.RowKit Go.Maps Go.Sort

namespace Sg
theorem off_strict (s : St) (h1 : s.edges.length = 1) (bs : List Rc.Bat) (hc : Chain s bs) (hg : ∀ b ∈ bs, Rc.Good b) (a b : Nat) (hab : a < b) (hb : b ≤ bs.length) : (ed (adds s bs).edges a).off < (ed (adds s bs).edges b).off := by
  have e1 := ed_base s h1 bs hc a (by omega)
  have e2 := ed_next s h1 bs a (by omega)
  have g := (hg _ (List.getElem_mem (show a < bs.length by omega))).n0
  have h3 := off_mono s h1 bs hc (a + 1) b (by omega) (by rw [adds_len]; omega)
  omega
theorem pos_strict (s : St) (h1 : s.edges.length = 1) (h0 : (last s.edges).pos = 0) (bs : List Rc.Bat) (a b : Nat) (hab : a < b) (hb : b ≤ bs.length) : (ed (adds s bs).edges a).pos < (ed (adds s bs).edges b).pos := by
  have h3 := pos_mono s h1 h0 bs (a + 1) b (by omega) (by rw [adds_len]; omega)
  have e1 := ed_pos s h1 h0 bs a (by omega)
  have e2 := ed_pos s h1 h0 bs (a + 1) (by omega)
  rw [List.take_succ_eq_append_getElem (show a < bs.length by omega), List.flatMap_append, List.length_append] at e2
  have h4 : (List.flatMap Rc.bytes [bs[a]]).length = (Rc.bytes bs[a]).length := by simp
  have h5 := Rc.bytes_len bs[a]
  omega
theorem St.same {a b : St} (h1 : a.file = b.file) (h2 : a.every = b.every) (h3 : a.edges = b.edges) (h4 : a.synced = b.synced) : a = b := by
  cases a; cases b; simp only at h1 h2 h3 h4; subst h1 h2 h3 h4; rfl
end Sg
section
variable {d d' : Dk.St} {s : Sg.St} {room used base every : Int} {names : Dk.Dir} {x : Nat} {bs : List Rc.Bat}
theorem Mz.offs (h : Mz d s room used names base every x bs) (a b : Nat) (hab : a < b) (hb : b ≤ bs.length) : (Sg.ed s.edges a).off < (Sg.ed s.edges b).off := by
  rw [h.edges]; exact Sg.off_strict _ rfl bs h.chain h.good a b hab hb
theorem Mz.poss (h : Mz d s room used names base every x bs) (a b : Nat) (hab : a < b) (hb : b ≤ bs.length) : (Sg.ed s.edges a).pos < (Sg.ed s.edges b).pos := by
  rw [h.edges]; exact Sg.pos_strict _ rfl rfl bs a b hab hb
theorem Mz.edOff (h : Mz d s room used names base every x bs) (k : Nat) (hk : k < bs.length) : (Sg.ed s.edges k).off = bs[k].base := by
  rw [h.edges]; exact (Sg.ed_base _ rfl bs h.chain k hk).symm
theorem Mz.edPos (h : Mz d s room used names base every x bs) (k : Nat) (hk : k ≤ bs.length) : (Sg.ed s.edges k).pos = (((bs.take k).flatMap Rc.bytes).length : Int) := by
  rw [h.edges]; exact Sg.ed_pos _ rfl rfl bs k hk
theorem Mz.edLast (h : Mz d s room used names base every x bs) : Sg.ed s.edges bs.length = Sg.last s.edges := by
  unfold Sg.last; rw [h.len]; rfl
theorem Mz.posMono (h : Mz d s room used names base every x bs) (a b : Nat) (hab : a ≤ b) (hb : b < s.edges.length) : (Sg.ed s.edges a).pos ≤ (Sg.ed s.edges b).pos := by
  rw [h.len] at hb
  rcases Nat.lt_or_ge a b with h1 | h1
  · have := h.poss a b h1 (by omega); omega
  · obtain rfl : a = b := by omega
    omega
end
end Go.Proofs.YtcmgppacipdnaaaGreatDoor

namespace Go.Proofs.YtcmgppacipdnaaaGreatDoor
open Go.RowKit Go.Maps Go.Sort

namespace Sg
/-- What a segment comes to behind the first j batches. -/
def eAt (s : St) (xs : List Rc.Bat) (j : Nat) : Edge := last (adds s (xs.take j)).edges
theorem eAt_succ (s : St) (xs : List Rc.Bat) (j : Nat) (hj : j < xs.length) : eAt s xs (j + 1) = step (eAt s xs j) xs[j] (Rc.bytes xs[j]).length := by
  unfold eAt
  rw [List.take_succ_eq_append_getElem hj, adds_append, adds_cons, adds_nil, add_last]
end Sg
end Go.Proofs.YtcmgppacipdnaaaGreatDoor

namespace Go.Proofs.YtcmgppacipdnaaaGreatDoor
open Go.RowKit Go.Shelf Go.Sort

/-- The index of the first j batches. -/
def ixs (every : Int) (s0 : Sg.St) (cs : List Rc.Bat) : Nat → Ix.St
  | 0 => Ix.new every
  | j + 1 => Ix.put (ixs every s0 cs j) (Sg.eAt s0 cs j).off (Sg.eAt s0 cs (j + 1)).time (Sg.eAt s0 cs j).pos
theorem ixs_adds (every : Int) (s0 : Sg.St) (cs : List Rc.Bat) (j : Nat) : (ixs every s0 cs j).adds.length = j ∧ (ixs every s0 cs j).marks.length ≤ j ∧ ∀ a, (ixs every s0 cs j).adds.getLast? = some a → ∃ i, j = i + 1 ∧ a = ⟨(Sg.eAt s0 cs i).off, (Sg.eAt s0 cs i).pos⟩ := by
  induction j with
  | zero => exact ⟨rfl, Nat.le_refl _, fun a h => by cases h⟩
  | succ j ih =>
    refine ⟨?_, ?_, fun a h => ⟨j, rfl, ?_⟩⟩
    · simp only [ixs, Ix.put, List.length_append, List.length_singleton]; omega
    · simp only [ixs, Ix.put]
      split
      · simp only [List.length_append, List.length_singleton]; omega
      · omega
    · simp only [ixs, Ix.put] at h
      rw [List.getLast?_concat] at h
      injection h with h
      exact h.symm
theorem eAt_ed {d : Dk.St} {s : Sg.St} {room used base every : Int} {names : Dk.Dir} {x : Nat} {bs : List Rc.Bat} (h : Mz d s room used names base every x bs) (j : Nat) (hj : j ≤ bs.length) : Sg.eAt (Sg.begin (Nm.seg base) base every) bs j = Sg.ed s.edges j := by
  rw [h.edges, Sg.ed_last _ rfl bs j hj]
  rfl
theorem Sg.Ok.edge {s : Sg.St} (h : Sg.Ok s) (j : Nat) (hj : j < s.edges.length) : (0 ≤ (Sg.ed s.edges j).off ∧ (Sg.ed s.edges j).off ≤ 1099511627776) ∧ -1099511627776 ≤ (Sg.ed s.edges j).time ∧ (Sg.ed s.edges j).time ≤ 1099511627776 :=
  ⟨h.off _ (Sg.ed_mem hj), h.time _ (Sg.ed_mem hj)⟩
theorem run_from_edge (W : World) (A : Option Addr) (n cap : Nat) (_h : 1 ≤ n) (_hn : n ≤ cap) :
    (Instr.sliceAt 139 (.slice A n cap) (some (.int .i64 1)) none none).run Tryz.prog W = .ok (.slice (if cap = 1 then A else A.map (·.add 4)) (n - 1) (cap - 1)) W := by
  rw [run_sliceAt_slice W _ _ _ _ _ edge_elem, run_slice_l W _ A n cap edge_elem .i64 1 (by omega) (by omega), edge_sizeOf]
  simp [Result.andThen, sliced]

set_option maxRecDepth 100000 in
set_option maxHeartbeats 2000000 in
theorem sgIndex_any (w : World) (X D : Nat) (T : Nat → Prop) (d : Dk.St) (s : Sg.St) (p : Nat → Addr) (h : SegAt w X D s T) (ho : Sg.Ok s) (hs : SentsG w p)
    {room used base every : Int} {names : Dk.Dir} {x : Nat} {bs : List Rc.Bat} (hm : Mz d s room used names base every x bs) (hl : bs.length ≤ 1000) (hp : (Sg.last s.edges).pos ≤ 1000000) :
    Calls Tryz.prog 89 #[.pointer (some ⟨X, 0, none⟩)] w fun e w' => ∃ I S', e = .returned (.pointer (some ⟨I, 0, none⟩)) ∧ IxAt w' I (ixs every (Sg.begin (Nm.seg base) base every) bs bs.length) S' ∧ (∀ k, S' k → w.heap.size ≤ k ∧ k < w'.heap.size) ∧ Below w.heap.size w w' := by
  obtain ⟨v, hl1⟩ := h
  obtain ⟨A, c, rfl, he, c0, c1, c2, c3, c4⟩ := hl1.cells
  have hev : s.every = every := by
    obtain ⟨z, hz⟩ := hm
    rw [hz.seg, (Sg.adds_file _ _).2.1]
    rfl
  rw [hev] at c2
  have hevb := ho.every
  rw [hev] at hevb
  have hX := hl1.lt
  have HNW := hide (fun (W : World) => ixNew_any every W hevb)
  obtain ⟨n, hn⟩ : ∃ n, n = bs.length := ⟨_, rfl⟩
  have hlen := hm.len
  rw [← hn] at hlen hl ⊢
  rw [hlen] at c3
  have hle := he.le
  rw [hlen] at hle
  have hmx := he.mx
  have HE := hide he
  have HS := hide hs
  have HM := hide hm
  have HLN := hide hlen
  -- what is asked of each edge
  have HGD : Hid (∀ j, j < n → Ix.good (ixs every (Sg.begin (Nm.seg base) base every) bs j) (Sg.ed s.edges j).off (Sg.ed s.edges (j + 1)).time (Sg.ed s.edges j).pos ((Sg.ed s.edges (j + 1)).pos - (Sg.ed s.edges j).pos)) := hide fun j hj => by
    have h1 := ho.edge j (by omega)
    have h2 := ho.edge (j + 1) (by omega)
    have h3 := hm.poss j (j + 1) (by omega) (by omega)
    have h4 := hm.posMono j bs.length (by omega) (by rw [hm.len]; omega)
    have h5 : (Sg.ed s.edges bs.length).pos = (Sg.last s.edges).pos := by rw [hm.edLast]
    have h6 := ho.pos _ (Sg.ed_mem (l := s.edges) (i := j) (by omega))
    refine ⟨h1.1, h2.2, by omega, ⟨h6.1, by omega⟩, fun a ha => ?_⟩
    obtain ⟨i, rfl, rfl⟩ := (ixs_adds _ _ _ _).2.2 a ha
    rw [eAt_ed hm i (by omega)]
    exact ⟨hm.offs i (i + 1) (by omega) (by omega), hm.poss i (i + 1) (by omega) (by omega)⟩
  have HPT : Hid (∀ j, j < n → ixs every (Sg.begin (Nm.seg base) base every) bs (j + 1) = Ix.put (ixs every (Sg.begin (Nm.seg base) base every) bs j) (Sg.ed s.edges j).off (Sg.ed s.edges (j + 1)).time (Sg.ed s.edges j).pos) := hide fun j hj => by
    show Ix.put _ _ _ _ = _
    rw [eAt_ed hm j (by omega), eAt_ed hm (j + 1) (by omega)]
  have HOK : Hid (∀ j, j ≤ n → Ix.Ok (ixs every (Sg.begin (Nm.seg base) base every) bs j)) := hide fun j hj => by
    induction j with
    | zero => exact Ix.Ok.new every hevb
    | succ j ih =>
      have g := HGD.out j (by omega)
      rw [HPT.out j (by omega)]
      exact (ih (by omega)).put _ _ _ g.1 g.2.1 g.2.2.2.1
  have HAD := hide (fun j => ixs_adds every (Sg.begin (Nm.seg base) base every) bs j)
  have HPB : Hid (∀ j, j ≤ n → 0 ≤ (Sg.ed s.edges j).pos ∧ (Sg.ed s.edges j).pos ≤ 1000000) := hide fun j hj => by
    have h4 := hm.posMono j bs.length (by omega) (by rw [hm.len]; omega)
    rw [hm.edLast] at h4
    exact ⟨(ho.pos _ (Sg.ed_mem (l := s.edges) (i := j) (by omega))).1, by omega⟩
  have hzero : ixs every (Sg.begin (Nm.seg base) base every) bs 0 = Ix.new every := rfl
  generalize ixs every (Sg.begin (Nm.seg base) base every) bs = ix at *
  have hfe := fun W => run_from_edge W A (n + 1) c (by omega) hle
  rw [Nat.add_sub_cancel] at hfe
  obtain ⟨A', hA'⟩ : ∃ A', A' = (if c = 1 then A else A.map (·.add 4)) := ⟨_, rfl⟩
  rw [← hA'] at hfe
  have HAA := hide hA'
  clear hl1 he hs hm hlen hn ho hev c0 c1 c4 hA' hp
  go_enter Tryz.func89, Tryz.ntmps89
  go_upto_region 2 with (first
    | (go_at_call 71; refine (HNW.out w).mono ?_; rintro e w1 ⟨rfl, hi1, hb1⟩; have HI1 := hide hi1; have HB1 := hide hb1; have x3 := (hb1.cell (p := ⟨X, 3, none⟩) hX).trans c3; clear hi1 hb1 HNW)
    | fail)
  go_wp2_with fail
  go_loopw [22] (fun iv wr => ∃ (i : Nat) (S' : Nat → Prop), i ≤ n ∧ iv = .int .i64 i ∧ IxAt wr w.heap.size (ix i) S' ∧ (∀ k, S' k → w.heap.size ≤ k ∧ k < wr.heap.size) ∧ Below w.heap.size w wr) (fun iv _ => n - (intOf iv).toNat)
  case atStart => exact ⟨0, _, Nat.zero_le _, rfl, by rw [hzero]; exact HI1.out, fun k hk => hk, HB1.out⟩
  case round =>
    obtain ⟨i, S', hi, rfl, hix, hsl, hbr⟩ := hrel
    have HIX := hide hix
    have HSL := hide hsl
    have HBR := hide hbr
    clear hix hsl hbr HI1 HB1 x3
    by_cases hlt : i < n
    · obtain ⟨g, rfl, hg, e0, e1, -, -⟩ := HE.out.at_ i (by rw [HLN.out]; omega)
      obtain ⟨g', eg, -, j0, j1, j2, j3⟩ := HE.out.at_ (i + 1) (by rw [HLN.out]; omega)
      obtain rfl : g' = g := by injection eg with eg; injection eg with eg; exact eg.symm
      obtain rfl : A' = some ⟨g', 4, none⟩ := by
        rw [HAA.out, if_neg (by omega)]
        simp [Addr.add_lit]
      have x3 := (HBR.out.cell (p := ⟨X, 3, none⟩) hX).trans c3
      have y0 := (HBR.out.cell (p := ⟨g', i * 4, none⟩) hg).trans e0
      have y1 := (HBR.out.cell (p := ⟨g', i * 4 + 1, none⟩) hg).trans e1
      obtain ⟨g2, eg2, -, -, -, e2, e3⟩ := HE.out.at_ i (by rw [HLN.out]; omega)
      obtain rfl : g2 = g' := by injection eg2 with eg2; injection eg2 with eg2; exact eg2.symm
      have y2 := (HBR.out.cell (p := ⟨g2, i * 4 + 2, none⟩) hg).trans e2
      have y3 := (HBR.out.cell (p := ⟨g2, i * 4 + 3, none⟩) hg).trans e3
      rw [show (i + 1) * 4 = 4 + i * 4 by omega] at j0 j1 j2 j3
      have z0 := (HBR.out.cell (p := ⟨g2, 4 + i * 4, none⟩) hg).trans j0
      have z1 := (HBR.out.cell (p := ⟨g2, 4 + i * 4 + 1, none⟩) hg).trans j1
      have z2 := (HBR.out.cell (p := ⟨g2, 4 + i * 4 + 2, none⟩) hg).trans j2
      have z3 := (HBR.out.cell (p := ⟨g2, 4 + i * 4 + 3, none⟩) hg).trans j3
      have hgd := HGD.out i hlt
      have hpt := HPT.out i hlt
      have hpb := HPB.out i hi
      have hpb2 := HPB.out (i + 1) (by omega)
      have hab := (HAD.out i)
      have HAC := hide (fun (W : World) (S2 : Nat → Prop) (hI : IxAt W w.heap.size (ix i) S2) (hc : W.cell? ⟨3, 0, none⟩ = some (errV (p 4))) => ixAdd_any w.heap.size (ix i) S2 p (Sg.ed s.edges i).off (Sg.ed s.edges (i + 1)).time (Sg.ed s.edges i).pos ((Sg.ed s.edges (i + 1)).pos - (Sg.ed s.edges i).pos) W hI (HOK.out i hi) (by omega) (by omega) hc)
      have hadd : Ix.add (ix i) (Sg.ed s.edges i).off (Sg.ed s.edges (i + 1)).time (Sg.ed s.edges i).pos ((Sg.ed s.edges (i + 1)).pos - (Sg.ed s.edges i).pos) = (none, ix (i + 1)) := by
        unfold Ix.add
        rw [if_pos hgd, hpt]
      rw [hadd] at HAC
      simp only [errR] at HAC
      have hwp : IntKind.i64.wrap ((Sg.ed s.edges (i + 1)).pos - (Sg.ed s.edges i).pos) = (Sg.ed s.edges (i + 1)).pos - (Sg.ed s.edges i).pos := by rw [IntKind.wrap_i64]; omega
      clear e0 e1 e2 e3 j0 j1 j2 j3 eg eg2 hgd hpt hpb hpb2 hab hadd
      generalize Sg.ed s.edges (i + 1) = eb at *
      generalize Sg.ed s.edges i = ea at *
      obtain ⟨ao, ap, ae, at1⟩ := ea
      obtain ⟨bo, bp, be, bt⟩ := eb
      simp only at y0 y1 y2 y3 z0 z1 z2 z3 HAC hwp
      have dln : decide (i < n) = true := decide_eq_true hlt
      go_upto_region 5 with fail
      have hb4 : Below wr.heap.size wr (wr.alloc (.cells #[.int .i64 bo, .int .i64 bp, .int .i64 be, .int .i64 bt] 138)) := balloc (Below.refl _ _) _
      have hn4 := heap_alloc_new wr (.cells #[.int .i64 bo, .int .i64 bp, .int .i64 be, .int .i64 bt] 138)
      obtain ⟨B4, hB4⟩ : ∃ B4, B4 = wr.heap.size := ⟨_, rfl⟩
      rw [← hB4] at hn4
      have HB4 := hide hB4
      generalize hw4 : wr.alloc (.cells #[.int .i64 bo, .int .i64 bp, .int .i64 be, .int .i64 bt] 138) = w4 at *
      have x34 := (hb4.cell (p := ⟨X, 3, none⟩) (Nat.lt_of_lt_of_le hX HBR.out.size)).trans x3
      have hgr := Nat.lt_of_lt_of_le hg HBR.out.size
      have t0 := (hb4.cell (p := ⟨g2, i * 4, none⟩) hgr).trans y0
      have t1 := (hb4.cell (p := ⟨g2, i * 4 + 1, none⟩) hgr).trans y1
      have t2 := (hb4.cell (p := ⟨g2, i * 4 + 2, none⟩) hgr).trans y2
      have t3 := (hb4.cell (p := ⟨g2, i * 4 + 3, none⟩) hgr).trans y3
      have h4n := hn4
      rw [← hB4]
      have H4 := hide hb4
      have HN4 := hide hn4
      clear x3 y0 y1 y2 y3 z0 z1 z2 z3 hb4 hn4 h4n hw4 hB4 hgr
      have hin : i < n + 1 := by omega
      go_upto_region 6 with fail
      have hb5 : Below w4.heap.size w4 (w4.alloc (.cells #[.int .i64 ao, .int .i64 ap, .int .i64 ae, .int .i64 at1] 138)) := balloc (Below.refl _ _) _
      have hn5 := heap_alloc_new w4 (.cells #[.int .i64 ao, .int .i64 ap, .int .i64 ae, .int .i64 at1] 138)
      obtain ⟨B5, hB5⟩ : ∃ B5, B5 = w4.heap.size := ⟨_, rfl⟩
      rw [← hB5] at hn5
      have h4n := (hb5.block B4 (Array.getElem?_eq_some_iff.1 HN4.out).1).trans HN4.out
      have HBR5 := hide (HBR.out.trans ((H4.out.trans (hb5.mono H4.out.size)).mono HBR.out.size))
      have HZ45 : Hid (wr.heap.size ≤ (w4.alloc (.cells #[.int .i64 ao, .int .i64 ap, .int .i64 ae, .int .i64 at1] 138)).heap.size) := hide (Nat.le_trans H4.out.size hb5.size)
      have HIX5 := hide ((HIX.out.same fun k _ hk => H4.out.block k hk).same fun k hS hk => hb5.block k hk)
      generalize hw5 : w4.alloc (.cells #[.int .i64 ao, .int .i64 ap, .int .i64 ae, .int .i64 at1] 138) = w5 at *
      rw [← hB5]
      have p0 : w5.cell? ⟨B5, 0, none⟩ = some (.int .i64 ao) := box_cell hn5 0
      have p1 : w5.cell? ⟨B5, 1, none⟩ = some (.int .i64 ap) := box_cell hn5 1
      have q1 : w5.cell? ⟨B4, 1, none⟩ = some (.int .i64 bp) := box_cell h4n 1
      have q3 : w5.cell? ⟨B4, 3, none⟩ = some (.int .i64 bt) := box_cell h4n 3
      clear hb5 hn5 hB5 hw5 h4n t0 t1 t2 t3 x34
      go_wp2_with (first
        | (go_at_call 132; refine (HAC.out w5 S' HIX5.out ((HS.out.below HBR5.out).cell 4 (by omega))).mono ?_; rintro e w6 ⟨rfl, hi6, hc6⟩; have HI6 := hide hi6; have HC6 := hide hc6; clear hi6 hc6 HAC)
        | fail)
      go_roundw
      case rel => exact ⟨i + 1, _, by omega, by go_num, HI6.out, fun k hk => (by
        rcases hk with hk | hk
        · exact ⟨(HSL.out k hk).1, Nat.lt_of_lt_of_le (HSL.out k hk).2 (Nat.le_trans HZ45.out HC6.out.size)⟩
        · have := HBR5.out.size; omega), HBR5.out.trans (HC6.out.below HBR5.out.size fun k hk => (HSL.out k hk).1)⟩
      case measure => simp [intOf]; omega
    · obtain rfl : i = n := by omega
      have dln : decide (i < i) = false := decide_eq_false (by omega)
      go_wp2_with fail
      go_ret
      exact ⟨w.heap.size, S', rfl, HIX.out, HSL.out, HBR.out⟩
end Go.Proofs.YtcmgppacipdnaaaGreatDoor
