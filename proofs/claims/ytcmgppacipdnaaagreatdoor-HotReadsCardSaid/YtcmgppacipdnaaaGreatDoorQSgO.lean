/-
  Package seg: Open, where the disk has no error.
  A segment made of batches: opened again; beside others on its disk; read from a batch's beginning on.
  A log of segments in memory.
  Two segments on one disk, plainly; a batch of one's own making beside them.
  Package seg: Create, whatever the disk says; where its numbers may not be.
-/
import Derived.Test.YtcmgppacipdnaaaGreatDoorQSgE
import Derived.Test.YtcmgppacipdnaaaGreatDoorQSgN
namespace Go.Proofs.YtcmgppacipdnaaaGreatDoor
open Go.RowKit Go.Shelf Go.Sort

end Go.Proofs.YtcmgppacipdnaaaGreatDoor

namespace Go.Proofs.YtcmgppacipdnaaaGreatDoor
open Go.RowKit Go.Maps Go.Sort

namespace Sg
theorem adds_sync (z : Int) (bs : List Rc.Bat) : ∀ s : St, adds { s with synced := z } bs = { adds s bs with synced := z } := by
  induction bs with
  | nil => intro s; rfl
  | cons b bs ih => intro s; rw [adds_cons, adds_cons]; exact ih (s.add b (Rc.bytes b).length)
theorem Chain.sync (z : Int) {bs : List Rc.Bat} : ∀ {s : St}, Chain s bs → Chain { s with synced := z } bs := by
  induction bs with
  | nil => intro s _; trivial
  | cons b bs ih => intro s h; exact ⟨h.1, ih h.2⟩
end Sg
/-- A segment of these batches, by its base, and its disk. -/
def Mz (d : Dk.St) (s : Sg.St) (room used : Int) (names : Dk.Dir) (base every : Int) (x : Nat) (bs : List Rc.Bat) : Prop :=
  ∃ z, Md d s room used names { Sg.begin (Nm.seg base) base every with synced := z } x bs
section
variable {d d' : Dk.St} {s : Sg.St} {room used used' base every : Int} {names names' : Dk.Dir} {x : Nat} {bs : List Rc.Bat}
theorem Md.mz (h : Md d s room used names (Sg.begin (Nm.seg base) base every) x bs) : Mz d s room used names base every x bs := ⟨0, h⟩
theorem Mz.beside (h : Mz d s room used names base every x bs) (hd : Dk.Has d' room used' names') (hn : names' (Nm.seg base) = some x) (hf : (d'.files x).bytes = (d.files x).bytes) : Mz d' s room used' names' base every x bs := by
  obtain ⟨z, h⟩ := h
  exact ⟨z, hd, h.one, h.zero, hn, by rw [hf]; exact h.bytes, h.seg, h.chain, h.good⟩
theorem Mz.has (h : Mz d s room used names base every x bs) : Dk.Has d room used names := by obtain ⟨z, h⟩ := h; exact h.has
theorem Mz.nm (h : Mz d s room used names base every x bs) : names (Nm.seg base) = some x := by obtain ⟨z, h⟩ := h; exact h.nm
theorem Mz.file (h : Mz d s room used names base every x bs) : s.file = Nm.seg base := by obtain ⟨z, h⟩ := h; exact h.file
theorem Mz.len (h : Mz d s room used names base every x bs) : s.edges.length = bs.length + 1 := by obtain ⟨z, h⟩ := h; exact h.len
theorem Mz.pos (h : Mz d s room used names base every x bs) : (Sg.last s.edges).pos = ((bs.flatMap Rc.bytes).length : Int) := by obtain ⟨z, h⟩ := h; exact h.pos
theorem Mz.good (h : Mz d s room used names base every x bs) : ∀ b ∈ bs, Rc.Good b := by obtain ⟨z, h⟩ := h; exact h.good
theorem Mz.edges (h : Mz d s room used names base every x bs) : s.edges = (Sg.adds (Sg.begin (Nm.seg base) base every) bs).edges := by
  obtain ⟨z, h⟩ := h
  rw [h.seg, Sg.adds_sync]
theorem Mz.chain (h : Mz d s room used names base every x bs) : Sg.Chain (Sg.begin (Nm.seg base) base every) bs := by
  obtain ⟨z, h⟩ := h
  exact h.chain.sync 0
theorem Mz.add (h : Mz d s room used names base every x bs) (b : Rc.Bat) (hg : Rc.Good b) (hf : Sg.follows s.edges b = true) (hr : ((Rc.bytes b).length : Int) ≤ room - used) :
    ∃ d', sgApp d s b = (none, d', s.add b (Rc.bytes b).length) ∧ Mz d' (s.add b (Rc.bytes b).length) room (used + (Rc.bytes b).length) names base every x (bs ++ [b]) ∧ ∀ y, y ≠ x → d'.files y = d.files y := by
  obtain ⟨z, h⟩ := h
  obtain ⟨d', e, hm⟩ := h.add b hg hf hr
  obtain ⟨d2, e2, -, -, hy⟩ := h.has.append s.file x (Rc.bytes b) (by rw [h.file]; exact h.nm) hr
  have e3 := e
  unfold sgApp at e3
  rw [if_neg (by rw [(Rc.bad_good b).2 hg]; simp), if_neg (by rw [hf]; simp), e2, if_pos rfl] at e3
  injection e3 with _ e3
  injection e3 with e3 _
  subst e3
  exact ⟨_, e, ⟨z, hm⟩, hy⟩
end
end Go.Proofs.YtcmgppacipdnaaaGreatDoor

namespace Go.Proofs.YtcmgppacipdnaaaGreatDoor
open Go.RowKit Go.Maps

/-- A segment of a log: its box, its blocks, what it is; plainly: its first offset, its file, its batches. -/
structure HQ where
  X : Nat
  T : Nat → Prop
  s : Sg.St
  base : Int
  x : Nat
  bs : List Rc.Bat
instance : Inhabited HQ := ⟨⟨0, fun _ => False, Sg.begin [] 0 0, 0, 0, []⟩⟩
abbrev hqV (q : HQ) : Value := .pointer (some ⟨q.X, 0, none⟩)
abbrev hbCells (b : Int × Int) : List Value := [.int .i64 b.1, .int .i64 b.2]
abbrev htCells (Bd : Nat) (sz ev : Int) (vs vb : Value) : Array Value := #[.pointer (some ⟨Bd, 0, none⟩), .int .i64 sz, .int .i64 ev, vs, vb]
theorem sp_info : (Tryz.prog.info? 87).map (fun i => (i.zero, i.size, i.bytes)) = some (some (.pointer none), 1, 8) := by kernel_rfl
theorem hb_info : (Tryz.prog.info? 103).map (fun i => (i.zero, i.size, i.bytes)) = some (some (.agg #[.int .i64 0, .int .i64 0]), 2, 16) := by kernel_rfl
/-- A log at H with its disk: S the disk's blocks, C the log's own ones. -/
structure HtL (w0 : World) (S : Nat → Prop) (n Bd : Nat) (d : Dk.St) (H : Nat) (C : Nat → Prop) (sz ev : Int) (vs vb : Value) (qs : List HQ) (bats : List (Int × Int)) (w : World) : Prop where
  disk : SessS S w0 n Bd d w
  box : w.heap[H]? = some (.cells (htCells Bd sz ev vs vb) 86 (0, 0))
  own : w.ownsRow 0 87 1 vs qs.length (qs.map hqV)
  bat : w.ownsRow 0 103 2 vb bats.length (bats.flatMap hbCells)
  ne : vs.ownBlock ≠ some H ∧ vb.ownBlock ≠ some H ∧ ∀ g, vs.ownBlock = some g → vb.ownBlock ≠ some g
  mine : C H ∧ (∀ g, vs.ownBlock = some g → C g) ∧ ∀ g, vb.ownBlock = some g → C g
  lo : ∀ k, C k → w0.heap.size ≤ k ∧ k < w.heap.size
  apart : ∀ k, C k → ¬ S k
  each : ∀ q ∈ qs, SegAt w q.X Bd q.s q.T ∧ Sg.Ok q.s ∧ q.s.file.length ≤ 1000 ∧ ∀ k, q.T k → ¬ S k ∧ ¬ C k ∧ w0.heap.size ≤ k ∧ k < w.heap.size
  two : qs.Pairwise fun a b => ∀ k, a.T k → ¬ b.T k
/-- All blocks. -/
def htU (S C : Nat → Prop) (qs : List HQ) (k : Nat) : Prop := S k ∨ C k ∨ ∃ q ∈ qs, q.T k
section
variable {w0 w w' w2 : World} {S S' C C' U : Nat → Prop} {n m Bd H : Nat} {d d' : Dk.St} {sz ev : Int} {vs vb : Value} {qs : List HQ} {bats : List (Int × Int)}
theorem HtL.below (h : HtL w0 S n Bd d H C sz ev vs vb qs bats w) : Below w0.heap.size w0 w := h.disk.below
theorem HtL.grow (h : HtL w0 S n Bd d H C sz ev vs vb qs bats w) (hb : Below w.heap.size w w') : HtL w0 S n Bd d H C sz ev vs vb qs bats w' :=
  ⟨h.disk.grow hb, (hb.block H (Array.getElem?_eq_some_iff.1 h.box).1).trans h.box, ownsRow_same h.own fun g hg => hb.block g (h.own.lt g hg).2, ownsRow_same h.bat fun g hg => hb.block g (h.bat.lt g hg).2, h.ne, h.mine,
    fun k hk => by have := h.lo k hk; have := hb.size; omega, h.apart, fun q hq => by
      obtain ⟨h1, h2, h3, h4⟩ := h.each q hq
      exact ⟨h1.below hb, h2, h3, fun k hk => by have h5 := h4 k hk; have h6 := hb.size; exact ⟨h5.1, h5.2.1, h5.2.2.1, by omega⟩⟩, h.two⟩
theorem HtL.mono (h : HtL w0 S n Bd d H C sz ev vs vb qs bats w) (hm : n ≤ m) : HtL w0 S m Bd d H C sz ev vs vb qs bats w := ⟨h.disk.mono hm, h.box, h.own, h.bat, h.ne, h.mine, h.lo, h.apart, h.each, h.two⟩
theorem HtL.uLo (h : HtL w0 S n Bd d H C sz ev vs vb qs bats w) (k : Nat) (hk : htU S C qs k) : w0.heap.size ≤ k ∧ k < w.heap.size := by
  rcases hk with hk | hk | ⟨q, hq, hk⟩
  · exact h.disk.lo k hk
  · exact h.lo k hk
  · exact (h.each q hq).2.2.2 k hk |>.2.2
/-- Nothing of it was changed. -/
theorem HtL.kept (h : HtL w0 S n Bd d H C sz ev vs vb qs bats w) {V : Nat → Prop} (hc : Chg V w w') (hV : ∀ k, V k → ¬ htU S C qs k) (hV0 : ∀ k, V k → w0.heap.size ≤ k) : HtL w0 S n Bd d H C sz ev vs vb qs bats w' := by
  have hs := hc.size
  have hk : ∀ k, htU S C qs k → w'.heap[k]? = w.heap[k]? := fun k hu => hc.block k (h.uLo k hu).2 fun hv => hV k hv hu
  refine ⟨⟨h.disk.disk.kept fun k hk2 _ => hk k (.inl hk2), fun k hk => by have := h.disk.lo k hk; omega, h.disk.below.trans (hc.below h.disk.below.size hV0), h.disk.small⟩, (hk H (.inr (.inl h.mine.1))).trans h.box, ownsRow_same h.own fun g hg => hk g (.inr (.inl (h.mine.2.1 g hg))), ownsRow_same h.bat fun g hg => hk g (.inr (.inl (h.mine.2.2 g hg))), h.ne, h.mine, fun k hk => by have := h.lo k hk; omega, h.apart, fun q hq => ?_, h.two⟩
  obtain ⟨h1, h2, h3, h4⟩ := h.each q hq
  exact ⟨h1.same fun k hk2 _ => hk k (.inr (.inr ⟨q, hq, hk2⟩)), h2, h3, fun k hk2 => by have := h4 k hk2; exact ⟨this.1, this.2.1, this.2.2.1, by omega⟩⟩
/-- One of its segments, with the disk. -/
theorem HtL.seg (h : HtL w0 S n Bd d H C sz ev vs vb qs bats w) (q : HQ) (hq : q ∈ qs) : SgW w0 S q.T n Bd d q.X q.s w := by
  obtain ⟨h1, h2, h3, h4⟩ := h.each q hq
  exact ⟨h.disk, h1, fun k hk => (h4 k hk).1, fun k hk => (h4 k hk).2.2, h2, h3⟩
/-- The last segment was told something. -/
theorem HtL.told {qs0 : List HQ} {q : HQ} (h : HtL w0 S n Bd d H C sz ev vs vb (qs0 ++ [q]) bats w) {T' : Nat → Prop} {s' : Sg.St} {bs' : List Rc.Bat} (hw : SgW w0 S' T' m Bd d' q.X s' w') (hc : Chg (fun k => S k ∨ q.T k) w w') (hu : ∀ k, (S' k ∨ T' k) → Up (fun k => S k ∨ q.T k) w w' k) :
    HtL w0 S' m Bd d' H C sz ev vs vb (qs0 ++ [{ q with T := T', s := s', bs := bs' }]) bats w' := by
  have hs := hc.size
  have hqm : q ∈ qs0 ++ [q] := by simp
  have hqT := (h.each q hqm).2.2.2
  have hC : ∀ k, C k → w'.heap[k]? = w.heap[k]? ∧ ¬ S' k ∧ ¬ T' k := fun k hk => by
    have hl := (h.lo k hk).2
    have hn : ¬ (S k ∨ q.T k) := fun hx => hx.elim (h.apart k hk) fun ht => (hqT k ht).2.1 hk
    have key : ∀ P : Prop, Up (fun k => S k ∨ q.T k) w w' k → P := fun P hx => by
      rcases hx with hx | hx
      · exact absurd hx hn
      · omega
    exact ⟨hc.block k hl hn, fun hx => key _ (hu k (.inl hx)), fun hx => key _ (hu k (.inr hx))⟩
  have htw := List.pairwise_append.1 h.two
  have hO : ∀ a ∈ qs0, ∀ k, a.T k → w'.heap[k]? = w.heap[k]? ∧ ¬ S' k ∧ ¬ T' k := fun a ha k hk => by
    obtain ⟨-, -, -, h4⟩ := h.each a (List.mem_append_left _ ha)
    have hl := (h4 k hk).2.2.2
    have hn : ¬ (S k ∨ q.T k) := fun hx => hx.elim (h4 k hk).1 fun ht => htw.2.2 a ha q (by simp) k hk ht
    have key : ∀ P : Prop, Up (fun k => S k ∨ q.T k) w w' k → P := fun P hx => by
      rcases hx with hx | hx
      · exact absurd hx hn
      · omega
    exact ⟨hc.block k hl hn, fun hx => key _ (hu k (.inl hx)), fun hx => key _ (hu k (.inr hx))⟩
  have hmp : (qs0 ++ [({ q with T := T', s := s', bs := bs' } : HQ)]).map hqV = (qs0 ++ [q]).map hqV := by simp
  have hln : (qs0 ++ [({ q with T := T', s := s', bs := bs' } : HQ)]).length = (qs0 ++ [q]).length := by simp
  refine ⟨hw.disk, ((hC H h.mine.1).1).trans h.box, ?_, ownsRow_same h.bat fun g hg => (hC g (h.mine.2.2 g hg)).1, h.ne, h.mine, fun k hk => by have := h.lo k hk; omega, fun k hk => (hC k hk).2.1, fun a ha => ?_, ?_⟩
  · rw [hmp, hln]
    exact ownsRow_same h.own fun g hg => (hC g (h.mine.2.1 g hg)).1
  · rcases List.mem_append.1 ha with ha | ha
    · obtain ⟨h1, h2, h3, h4⟩ := h.each a (List.mem_append_left _ ha)
      exact ⟨h1.same fun k hk _ => (hO a ha k hk).1, h2, h3, fun k hk => ⟨(hO a ha k hk).2.1, (h4 k hk).2.1, (h4 k hk).2.2.1, by have := (h4 k hk).2.2.2; omega⟩⟩
    · rw [List.mem_singleton.1 ha]
      exact ⟨hw.seg, hw.ok, hw.nm, fun k hk => ⟨hw.apart k hk, fun hx => (hC k hx).2.2 hk, hw.lo k hk⟩⟩
  · refine List.pairwise_append.2 ⟨htw.1, by simp, fun a ha b hb k hk => ?_⟩
    rw [List.mem_singleton.1 hb]
    exact (hO a ha k hk).2.2
theorem htU_told {qs0 : List HQ} {q : HQ} {T' : Nat → Prop} {s' : Sg.St} {bs' : List Rc.Bat} (hu : ∀ k, (S' k ∨ T' k) → Up (fun k => S k ∨ q.T k) w w' k) (k : Nat) (hk : htU S' C (qs0 ++ [{ q with T := T', s := s', bs := bs' }]) k) : Up (htU S C (qs0 ++ [q])) w w' k := by
  have key : Up (fun k => S k ∨ q.T k) w w' k → Up (htU S C (qs0 ++ [q])) w w' k := fun h => by
    rcases h with (h | h) | h
    · exact .inl (.inl h)
    · exact .inl (.inr (.inr ⟨q, by simp, h⟩))
    · exact .inr h
  rcases hk with hk | hk | ⟨a, ha, hk⟩
  · exact key (hu k (.inl hk))
  · exact .inl (.inr (.inl hk))
  · rcases List.mem_append.1 ha with ha | ha
    · exact .inl (.inr (.inr ⟨a, List.mem_append_left _ ha, hk⟩))
    · rw [List.mem_singleton.1 ha] at hk
      exact key (hu k (.inr hk))
end
theorem hbs_at : ∀ (l : List (Int × Int)) (k : Nat), k < l.length → (l.flatMap hbCells)[k * 2]? = some (.int .i64 (l.getD k (0, 0)).1) ∧ (l.flatMap hbCells)[k * 2 + 1]? = some (.int .i64 (l.getD k (0, 0)).2)
  | m :: l, 0, _ => ⟨rfl, rfl⟩
  | m :: l, k + 1, hk => by
    obtain ⟨h1, h2⟩ := hbs_at l k (by simp at hk; omega)
    have e : (m :: l).getD (k + 1) (0, 0) = l.getD k (0, 0) := rfl
    rw [e]
    simp only [List.flatMap_cons]
    rw [List.getElem?_append_right (by simp; omega), List.getElem?_append_right (by simp; omega)]
    simp only [List.length_cons, List.length_nil]
    rw [show (k + 1) * 2 - (0 + 1 + 1) = k * 2 by omega, show (k + 1) * 2 + 1 - (0 + 1 + 1) = k * 2 + 1 by omega]
    exact ⟨h1, h2⟩
/-- A row of segments' pointers, as it is read. -/
structure HqAt (w : World) (A : Option Addr) (c : Nat) (l : List HQ) : Prop where
  le : l.length ≤ c
  mx : c ≤ 9223372036854775807
  nil : A = none → l = []
  at_ : ∀ k, k < l.length → ∃ g, A = some ⟨g, 0, none⟩ ∧ g < w.heap.size ∧ w.cell? ⟨g, k, none⟩ = some (hqV (l.getD k default))
/-- A row of where batches begin, as it is read. -/
structure HbAt (w : World) (A : Option Addr) (c : Nat) (l : List (Int × Int)) : Prop where
  le : l.length ≤ c
  mx : c ≤ 9223372036854775807
  nil : A = none → l = []
  at_ : ∀ k, k < l.length → ∃ g, A = some ⟨g, 0, none⟩ ∧ g < w.heap.size ∧ w.cell? ⟨g, k * 2, none⟩ = some (.int .i64 (l.getD k (0, 0)).1) ∧ w.cell? ⟨g, k * 2 + 1, none⟩ = some (.int .i64 (l.getD k (0, 0)).2)
theorem hqs_at {w : World} {base : Nat} {v : Value} {l : List HQ} (h : w.ownsRow base 87 1 v l.length (l.map hqV)) : ∃ A c, v = .slice A l.length c ∧ HqAt w A c l := by
  rcases h.2 with ⟨e, k0⟩ | ⟨g, cap, cur, e, _, hh, hcap, hmx, _⟩
  · exact ⟨_, _, by rw [e, k0], by omega, by omega, fun _ => List.eq_nil_of_length_eq_zero k0, fun k hk => by omega⟩
  · refine ⟨_, _, e, by omega, by simp only [maxLen] at hmx; omega, fun e => (by cases e), fun k hk => ⟨g, rfl, (Array.getElem?_eq_some_iff.1 hh).1, ?_⟩⟩
    have hc := h.cells (g := g) (by rw [e]; rfl)
    have := hc k (hqV (l.getD k default)) (by rw [List.getElem?_map, List.getElem?_eq_getElem hk]; simp [List.getD, hk])
    rwa [Addr.add_lit, Nat.zero_add] at this
theorem hbs_of {w : World} {base : Nat} {v : Value} {l : List (Int × Int)} (h : w.ownsRow base 103 2 v l.length (l.flatMap hbCells)) : ∃ A c, v = .slice A l.length c ∧ HbAt w A c l := by
  rcases h.2 with ⟨e, k0⟩ | ⟨g, cap, cur, e, _, hh, hcap, hmx, _⟩
  · exact ⟨_, _, by rw [e, k0], by omega, by omega, fun _ => List.eq_nil_of_length_eq_zero k0, fun k hk => by omega⟩
  · refine ⟨_, _, e, by omega, by simp only [maxLen] at hmx; omega, fun e => (by cases e), fun k hk => ⟨g, rfl, (Array.getElem?_eq_some_iff.1 hh).1, ?_⟩⟩
    have hc := h.cells (g := g) (by rw [e]; rfl)
    obtain ⟨k1, k2⟩ := hbs_at l k hk
    refine ⟨?_, ?_⟩
    · have := hc _ _ k1; rwa [Addr.add_lit, Nat.zero_add] at this
    · have := hc _ _ k2; rwa [Addr.add_lit, Nat.zero_add] at this
theorem HqAt.below {w w' : World} {A : Option Addr} {c : Nat} {l : List HQ} (h : HqAt w A c l) (hb : Below w.heap.size w w') : HqAt w' A c l :=
  ⟨h.le, h.mx, h.nil, fun k hk => by
    obtain ⟨g, e, hg, h0⟩ := h.at_ k hk
    exact ⟨g, e, Nat.lt_of_lt_of_le hg hb.size, (hb.cell (p := ⟨g, k, none⟩) hg).trans h0⟩⟩
theorem HbAt.below {w w' : World} {A : Option Addr} {c : Nat} {l : List (Int × Int)} (h : HbAt w A c l) (hb : Below w.heap.size w w') : HbAt w' A c l :=
  ⟨h.le, h.mx, h.nil, fun k hk => by
    obtain ⟨g, e, hg, h0, h1⟩ := h.at_ k hk
    exact ⟨g, e, Nat.lt_of_lt_of_le hg hb.size, (hb.cell (p := ⟨g, k * 2, none⟩) hg).trans h0, (hb.cell (p := ⟨g, k * 2 + 1, none⟩) hg).trans h1⟩⟩
/-- What lies in its box. -/
theorem HtL.cells {w0 w : World} {S C : Nat → Prop} {n Bd H : Nat} {d : Dk.St} {sz ev : Int} {vs vb : Value} {qs : List HQ} {bats : List (Int × Int)} (h : HtL w0 S n Bd d H C sz ev vs vb qs bats w) :
    ∃ A c A' c', vs = .slice A qs.length c ∧ vb = .slice A' bats.length c' ∧ HqAt w A c qs ∧ HbAt w A' c' bats ∧ w.cell? ⟨H, 0, none⟩ = some (.pointer (some ⟨Bd, 0, none⟩)) ∧ w.cell? ⟨H, 1, none⟩ = some (.int .i64 sz) ∧ w.cell? ⟨H, 2, none⟩ = some (.int .i64 ev) ∧ w.cell? ⟨H, 3, none⟩ = some (.slice A qs.length c) ∧ w.cell? ⟨H, 4, none⟩ = some (.slice A' bats.length c') := by
  obtain ⟨A, c, e, h2⟩ := hqs_at h.own
  obtain ⟨A', c', e', h2'⟩ := hbs_of h.bat
  subst e e'
  exact ⟨A, c, A', c', rfl, rfl, h2, h2', box_cell h.box 0, box_cell h.box 1, box_cell h.box 2, box_cell h.box 3, box_cell h.box 4⟩
theorem HtL.lt {w0 w : World} {S C : Nat → Prop} {n Bd H : Nat} {d : Dk.St} {sz ev : Int} {vs vb : Value} {qs : List HQ} {bats : List (Int × Int)} (h : HtL w0 S n Bd d H C sz ev vs vb qs bats w) : H < w.heap.size := (Array.getElem?_eq_some_iff.1 h.box).1
end Go.Proofs.YtcmgppacipdnaaaGreatDoor

namespace Go.Proofs.YtcmgppacipdnaaaGreatDoor
open Go.RowKit Go.Maps Go.Sort

theorem seg_inj {a b : Int} (ha : 0 ≤ a ∧ a ≤ 1099511627776) (hb : 0 ≤ b ∧ b ≤ 1099511627776) (h : Nm.seg a = Nm.seg b) : a = b := by
  unfold Nm.seg at h
  rw [if_pos (by simp [Nm.right]; omega), if_pos (by simp [Nm.right]; omega)] at h
  have := Nm.segN_inj _ _ (by omega) (by omega) h
  omega
/-- A file that has a name lies in the disk's own blocks. -/
theorem SessS.named {S : Nat → Prop} {w0 w : World} {n Bd : Nat} {d : Dk.St} (h : SessS S w0 n Bd d w) {room used : Int} {names : Dk.Dir} (hh : Dk.Has d room used names) (k : Dk.Nm) (x : Nat) (hx : names k = some x) : S x ∧ x < w.heap.size := by
  obtain ⟨nb, db, sv, ids, row, hd⟩ := h.disk
  obtain ⟨calls, hv⟩ := hh
  have h1 := (hd.nref k x (by rw [hv.names]; exact hx)).1
  exact ⟨hd.mid x h1, (h.lo x (hd.mid x h1)).2⟩
/-- A segment beside the blocks that were changed stays. -/
theorem SgW.beside {w0 w w' : World} {S T S' T' : Nat → Prop} {n n' Bd X X' : Nat} {d d' : Dk.St} {s s' : Sg.St} (h : SgW w0 S T n Bd d X s w) (h' : SgW w0 S' T' n' Bd d' X' s' w') (hc : Chg S w w') (hu : ∀ k, (S' k ∨ T' k) → Up S w w' k) : SgW w0 S' T n' Bd d' X s w' :=
  ⟨h'.disk, h.seg.same fun k hk hl => hc.block k hl (h.apart k hk), fun k hk hS => by
    rcases hu k (.inl hS) with h1 | h1
    · exact h.apart k hk h1
    · have := (h.lo k hk).2; omega, fun k hk => by have := h.lo k hk; have := hc.size; omega, h.ok, h.nm⟩
/-- A batch [3] at 900 that lies there, boxed. -/
def othB : Rc.Bat := ⟨900, 0, [⟨3, [], []⟩]⟩
structure Oth (W : World) (g : Nat) : Prop where
  row : W.heap[g]? = some (.cells #[.int .i64 3, .slice none 0 0, .slice none 0 0] 80 (0, 0))
  box : W.heap[g + 1]? = some (.cells #[.int .i64 900, .int .i64 0, .slice (some ⟨g, 0, none⟩) 1 1] 36 (0, 0))
theorem Oth.keep {W W' : World} {g : Nat} {S : Nat → Prop} (h : Oth W g) (hc : Chg S W W') (h1 : ¬ S g) (h2 : ¬ S (g + 1)) : Oth W' g :=
  ⟨(hc.block _ (Array.getElem?_eq_some_iff.1 h.row).1 h1).trans h.row, (hc.block _ (Array.getElem?_eq_some_iff.1 h.box).1 h2).trans h.box⟩
theorem Oth.lt {W : World} {g : Nat} (h : Oth W g) : g + 1 < W.heap.size := (Array.getElem?_eq_some_iff.1 h.box).1
theorem argNil (w : World) : Arg w none 0 [] := ⟨Nat.le_refl _, by simp, fun _ => rfl, .inl rfl⟩
theorem Oth.bat {W : World} {g : Nat} (h : Oth W g) : IsBat W (some ⟨g, 0, none⟩) 1 othB :=
  ⟨Nat.le_refl _, by omega, .inr ⟨g, 0, rfl, (Array.getElem?_eq_some_iff.1 h.row).1, fun k hk => by
    have hk1 : k < 1 := hk
    obtain rfl : k = 0 := by omega
    exact ⟨none, 0, none, 0, box_cell h.row 0, box_cell h.row 1, box_cell h.row 2, argNil W, argNil W⟩⟩, ⟨by decide, by decide⟩, ⟨by decide, by decide⟩⟩
theorem Oth.made (w : World) : Oth ((w.alloc (.cells #[.int .i64 3, .slice none 0 0, .slice none 0 0] 80)).alloc (.cells #[.int .i64 900, .int .i64 0, .slice (some ⟨w.heap.size, 0, none⟩) 1 1] 36)) w.heap.size :=
  have hp : ∀ (w : World) (o : Obj), (w.alloc o).heap = w.heap.push o := fun _ _ => rfl
  ⟨by rw [hp, hp]; simp [Array.getElem?_push], by rw [hp, hp, Array.getElem?_push]; simp⟩
/-- SegGrows on its way: the second segment, and what the first one's file has. -/
structure Gr (w2 : World) (S T : Nat → Prop) (Bd X : Nat) (E : Int) (N2 : Dk.Dir) (x y g k : Nat) (d : Dk.St) (s : Sg.St) (cs : List Rc.Bat) (W : World) : Prop where
  sg : SgW w2 S T (3 * k + 7) Bd d X s W
  mb : ∃ used, used ≤ 300 * ((k : Int) + 1) ∧ Mz d s 1048576 used N2 900 E y [othB] ∧ ∃ t, Mz d t 1048576 used N2 0 E x (cs.take k)
  oth : Oth W g
  ng : ∀ j, (j = g ∨ j = g + 1) → w2.heap.size ≤ j ∧ ¬ S j ∧ ¬ T j
end Go.Proofs.YtcmgppacipdnaaaGreatDoor

namespace Go.Proofs.YtcmgppacipdnaaaGreatDoor
open Go.RowKit Go.Maps Go.Sort

/-- What Create makes of the disk, and its error. -/
def sgCrt (d : Dk.St) (f : Dk.Nm) (x : Nat) : Option Nat × Dk.St :=
  if (d.create f x).1 ≠ none then d.create f x
  else if ((d.create f x).2.sync f).1 ≠ none then (d.create f x).2.sync f
  else ((d.create f x).2.sync f).2.syncDir
/-- What Create leaves, and answers. -/
def CrPost (w0 : World) (S : Nat → Prop) (n Bd : Nat) (p : Nat → Addr) (s0 : Sg.St) (w : World) (r : Option Nat × Dk.St) (e : Ending) (w' : World) : Prop :=
  match r.1 with
  | none => ∃ X S' T', e = .returned (.tuple #[.pointer (some ⟨X, 0, none⟩), .nilIface]) ∧ SgW w0 S' T' (n + 3) Bd r.2 X s0 w' ∧ Chg S w w' ∧ (∀ k, (S' k ∨ T' k) → Up S w w' k)
  | some j => ∃ S', e = .returned (.tuple #[.pointer none, errV (p j)]) ∧ SessS S' w0 (n + 3) Bd r.2 w' ∧ Chg S w w' ∧ (∀ k, S' k → Up S w w' k)
set_option maxRecDepth 100000 in
set_option maxHeartbeats 1000000 in
theorem sgCreate_any (w0 w : World) (S : Nat → Prop) (n Bd : Nat) (d : Dk.St) (base every : Int) (p : Nat → Addr) (h : SessS S w0 n Bd d w) (hs : SentsG w0 p) (hn : n ≤ 990) (h0 : 0 ≤ base ∧ base ≤ 1099511627776) (h1 : 1 ≤ every ∧ every ≤ 1048576) (ht : PowTab w0) :
    Calls Tryz.prog 126 #[.pointer (some ⟨Bd, 0, none⟩), .int .i64 base, .int .i64 every] w fun e w' => ∃ x, w.heap.size ≤ x ∧ CrPost w0 S n Bd p (Sg.begin (Nm.seg base) base every) w (sgCrt d (Nm.seg base) x) e w' := by
  have HB := hide (sgBegin_any Bd base every w h0 h1 (ht.below h.below))
  have HH := hide h
  have HSD := hide hs.d
  have HLN : Hid ((Nm.seg base).length ≤ 1000) := hide (by rw [seg_name h0]; omega)
  have HOK := hide (Sg.begin_ok (Nm.seg base) h0 h1)
  have HFL : Hid ((Sg.begin (Nm.seg base) base every).file = Nm.seg base) := hide rfl
  clear h hs ht
  generalize Sg.begin (Nm.seg base) base every = s0 at *
  generalize Nm.seg base = f at *
  have HC := hide (fun (W : World) (hw : Below w.heap.size w W) => (HH.out.grow hw).create p HSD.out (by omega) f HLN.out W.heap.size rfl)
  have HY := hide (fun (W : World) (S' : Nat → Prop) (dx : Dk.St) (hW : SessS S' w0 (n + 1) Bd dx W) => hW.sync p HSD.out (by omega) f HLN.out)
  have HD := hide (fun (W : World) (S' : Nat → Prop) (dx : Dk.St) (hW : SessS S' w0 (n + 2) Bd dx W) => hW.syncDir p HSD.out (by omega))
  generalize hfe : encStr f = fv at *
  go_enter Tryz.func126, Tryz.ntmps126
  go_upto_region 4 with (first
    | (go_at_call 157; refine HB.out.mono ?_; rintro e w1 ⟨X, rfl, hsg, hb1⟩; have HB1 := hide hb1; obtain ⟨v1, hl1⟩ := hsg; have HL1 := hide hl1; have c1 : w1.cell? ⟨X, 1, none⟩ = some fv := (by rw [← hfe, ← HFL.out]; exact box_cell hl1.box 1); clear hb1 hl1)
    | fail)
  have z1 := HB1.out.size
  have n1 : ∀ k, (w.heap.size ≤ k ∧ k < w1.heap.size) → ¬ S k := fun k hk hS => by have := (HH.out.lo k hS).2; omega
  have hc1 := HC.out w1 HB1.out
  obtain ⟨x, hx⟩ : ∃ x, x = w1.heap.size := ⟨_, rfl⟩
  rw [← hx] at hc1
  obtain ⟨r1, d1, e1⟩ : ∃ r1 d1, d.create f x = (r1, d1) := ⟨_, _, rfl⟩
  rw [e1] at hc1
  simp only at hc1
  have HC1 := hide hc1
  have HXX := hide hx
  have HE1 := hide e1
  clear hc1 HC hx e1
  cases r1 with
  | some j =>
    have hr : sgCrt d f x = (some j, d1) := by unfold sgCrt; rw [HE1.out, if_pos (by simp)]
    have hnn := neq_nilD (p j)
    unfold errR errV at *
    go_wp2_with (first
      | (go_at_call 165; refine HC1.out.mono ?_; rintro e w2 ⟨rfl, hd2, hc2⟩; have HD2 := hide hd2; have HC2 := hide hc2; clear hd2 hc2)
      | fail)
    go_ret2
    refine ⟨x, by rw [HXX.out]; exact z1, ?_⟩
    rw [hr]
    have z2 := HC2.out.size
    refine ⟨_, rfl, HD2.out.mono (by omega), (Chg.of_below HB1.out).then HC2.out, fun k hk => ?_⟩
    rcases hk with hk | hk
    · exact .inl hk
    · exact .inr (by omega)
  | none =>
    unfold errR at HC1
    go_upto_region 7 with (first
      | (go_at_call 165; refine HC1.out.mono ?_; rintro e w2 ⟨rfl, hd2, hc2⟩; have HD2 := hide hd2; have HC2 := hide hc2; have HL2 := hide (HL1.out.same fun k hk hl => hc2.block k hl (n1 k hk)); have c2 : w2.cell? ⟨X, 1, none⟩ = some fv := (by rw [← hfe, ← HFL.out]; exact box_cell HL2.out.box 1); clear hd2 hc2)
      | fail)
    have z2 := HC2.out.size
    have n2 : ∀ k, (w.heap.size ≤ k ∧ k < w1.heap.size) → ¬ Up S w1 w2 k := fun k hk hu => by rcases hu with hu | hu; exact n1 k hk hu; omega
    have hy1 := HY.out w2 _ _ HD2.out
    obtain ⟨r2, d2, e2⟩ : ∃ r2 d2, d1.sync f = (r2, d2) := ⟨_, _, rfl⟩
    rw [e2] at hy1
    simp only at hy1
    have HY1 := hide hy1
    have HE2 := hide e2
    clear hy1 HY e2
    cases r2 with
    | some j =>
      have hr : sgCrt d f x = (some j, d2) := by unfold sgCrt; rw [HE1.out, if_neg (by simp), HE2.out, if_pos (by simp)]
      have hnn := neq_nilD (p j)
      unfold errR errV at *
      go_wp2_with (first
        | (go_at_call 110; refine HY1.out.mono ?_; rintro e w3 ⟨rfl, hd3, hc3⟩; have HD3 := hide hd3; have HC3 := hide hc3; clear hd3 hc3)
        | fail)
      go_ret2
      refine ⟨x, by rw [HXX.out]; exact z1, ?_⟩
      rw [hr]
      have z3 := HC3.out.size
      refine ⟨_, rfl, HD3.out.mono (by omega), (Chg.of_below HB1.out).then (HC2.out.up HC3.out), fun k hk => ?_⟩
      rcases hk with (hk | hk) | hk
      · exact .inl hk
      · exact .inr (by omega)
      · exact .inr (by omega)
    | none =>
      unfold errR at HY1
      go_upto_region 10 with (first
        | (go_at_call 110; refine HY1.out.mono ?_; rintro e w3 ⟨rfl, hd3, hc3⟩; have HD3 := hide hd3; have HC3 := hide hc3; clear hd3 hc3)
        | fail)
      have z3 := HC3.out.size
      have n3 : ∀ k, (w.heap.size ≤ k ∧ k < w1.heap.size) → ¬ Up (Up S w1 w2) w2 w3 k := fun k hk hu => by rcases hu with hu | hu; exact n2 k hk hu; omega
      have hq1 := HD.out w3 _ _ HD3.out
      obtain ⟨r3, d3, e3⟩ : ∃ r3 d3, d2.syncDir = (r3, d3) := ⟨_, _, rfl⟩
      rw [e3] at hq1
      simp only at hq1
      have HQ1 := hide hq1
      have HE3 := hide e3
      clear hq1 HD e3
      have hr : sgCrt d f x = (r3, d3) := by unfold sgCrt; rw [HE1.out, if_neg (by simp), HE2.out, if_neg (by simp)]; exact HE3.out
      have HRR := hide hr
      clear hr
      cases r3 with
      | some j =>
        have hnn := neq_nilD (p j)
        unfold errR errV at *
        go_wp2_with (first
          | (go_at_call 125; refine HQ1.out.mono ?_; rintro e w4 ⟨rfl, hd4, hc4⟩; have HD4 := hide hd4; have HC4 := hide hc4; clear hd4 hc4)
          | fail)
        go_ret2
        refine ⟨x, by rw [HXX.out]; exact z1, ?_⟩
        rw [HRR.out]
        have z4 := HC4.out.size
        refine ⟨_, rfl, HD4.out, (Chg.of_below HB1.out).then ((HC2.out.up HC3.out).trans HC4.out fun i hi ht => by
          rcases ht with (ht | ht) | ht
          · exact ht
          · omega
          · omega), fun k hk => ?_⟩
        rcases hk with ((hk | hk) | hk) | hk
        · exact .inl hk
        · exact .inr (by omega)
        · exact .inr (by omega)
        · exact .inr (by omega)
      | none =>
        unfold errR at HQ1
        go_wp2_with (first
          | (go_at_call 125; refine HQ1.out.mono ?_; rintro e w4 ⟨rfl, hd4, hc4⟩; have HD4 := hide hd4; have HC4 := hide hc4; clear hd4 hc4)
          | fail)
        go_ret2
        refine ⟨x, by rw [HXX.out]; exact z1, ?_⟩
        rw [HRR.out]
        have z4 := HC4.out.size
        have n4 : ∀ k, (w.heap.size ≤ k ∧ k < w1.heap.size) → ¬ Up (Up (Up S w1 w2) w2 w3) w3 w4 k := fun k hk hu => by rcases hu with hu | hu; exact n3 k hk hu; omega
        have hsb := HH.out.below.size
        refine ⟨X, _, _, rfl, ⟨HD4.out, ⟨v1, (HL2.out.same fun k hk hl => HC3.out.block k hl (n2 k hk)).same fun k hk hl => HC4.out.block k hl (n3 k hk)⟩, n4, fun k hk => by omega, HOK.out, by rw [HFL.out]; exact HLN.out⟩, ?_, fun k hk => ?_⟩
        · exact (Chg.of_below HB1.out).then ((HC2.out.up HC3.out).trans HC4.out fun i hi ht => by
            rcases ht with (ht | ht) | ht
            · exact ht
            · omega
            · omega)
        · rcases hk with ((((hk | hk) | hk) | hk) | hk)
          · exact .inl hk
          · exact .inr (by omega)
          · exact .inr (by omega)
          · exact .inr (by omega)
          · exact .inr (by omega)
end Go.Proofs.YtcmgppacipdnaaaGreatDoor
