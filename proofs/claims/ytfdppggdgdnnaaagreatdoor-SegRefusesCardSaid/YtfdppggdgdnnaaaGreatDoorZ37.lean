/-
  Package seg, plainly: a segment made of batches is synced, cut, and its disk's power goes; what is synced of it; what is torn.
  Package seg: Open, where the file's bytes were cut off somewhere.
-/
import Derived.Test.YtfdppggdgdnnaaaGreatDoorZ31
import Derived.Test.YtfdppggdgdnnaaaGreatDoorZ36
import Derived.Test.YtfdppggdgdnnaaaGreatDoorZ7
import Derived.Test.YtfdppggdgdnnaaaGreatDoorZ35
namespace Go.Proofs.YtfdppggdgdnnaaaGreatDoor
open Go.RowKit Go.Maps Go.Sort

namespace Sg
theorem adds_pre (bs : List Rc.Bat) : ∀ s : St, ∃ l, (adds s bs).edges = s.edges ++ l := by
  induction bs with
  | nil => intro s; exact ⟨[], by rw [List.append_nil]; rfl⟩
  | cons b bs ih =>
    intro s
    obtain ⟨l, hl⟩ := ih (s.add b (Rc.bytes b).length)
    exact ⟨_, by rw [adds_cons, hl]; simp only [St.add]; rw [List.append_assoc]⟩
theorem adds_take (s : St) (h1 : s.edges.length = 1) (bs : List Rc.Bat) (j : Nat) (hj : j ≤ bs.length) : (adds s bs).edges.take (j + 1) = (adds s (bs.take j)).edges := by
  have hl : (adds s (bs.take j)).edges.length = j + 1 := by rw [adds_len, h1, List.length_take]; omega
  obtain ⟨l, e⟩ := adds_pre (bs.drop j) (adds s (bs.take j))
  rw [← adds_append, List.take_append_drop] at e
  rw [e, ← hl, List.take_left']
  rfl
theorem off_strict (s : St) (h1 : s.edges.length = 1) (bs : List Rc.Bat) (hc : Chain s bs) (hg : ∀ b ∈ bs, Rc.Good b) (a b : Nat) (hab : a < b) (hb : b ≤ bs.length) : (ed (adds s bs).edges a).off < (ed (adds s bs).edges b).off := by
  have e1 := ed_base s h1 bs hc a (by omega)
  have e2 := ed_next s h1 bs a (by omega)
  have g := (hg _ (List.getElem_mem (show a < bs.length by omega))).n0
  have h3 := off_mono s h1 bs hc (a + 1) b (by omega) (by rw [adds_len]; omega)
  omega
theorem pos_strict (s : St) (h1 : s.edges.length = 1) (h0 : (last s.edges).pos = 0) (bs : List Rc.Bat) (a b : Nat) (hab : a < b) (hb : b ≤ bs.length) : (ed (adds s bs).edges a).pos < (ed (adds s bs).edges b).pos := by
  have h3 := pos_mono s h1 h0 bs (a + 1) b (by omega) (by rw [adds_len]; omega)
  have e1 := ed_pos s h1 h0 bs a (by omega)
  have e2 := ed_pos s h1 h0 bs (a + 1) (by omega)
  rw [List.take_succ_eq_append_getElem (show a < bs.length by omega), List.flatMap_append, List.length_append] at e2
  have h4 : (List.flatMap Rc.bytes [bs[a]]).length = (Rc.bytes bs[a]).length := by simp
  have h5 := Rc.bytes_len bs[a]
  omega
theorem St.same {a b : St} (h1 : a.file = b.file) (h2 : a.every = b.every) (h3 : a.edges = b.edges) (h4 : a.synced = b.synced) : a = b := by
  cases a; cases b; simp only at h1 h2 h3 h4; subst h1 h2 h3 h4; rfl
end Sg
section
variable {d d' : Dk.St} {s : Sg.St} {room used base every : Int} {names : Dk.Dir} {x : Nat} {bs : List Rc.Bat}
theorem Mz.offs (h : Mz d s room used names base every x bs) (a b : Nat) (hab : a < b) (hb : b ≤ bs.length) : (Sg.ed s.edges a).off < (Sg.ed s.edges b).off := by
  rw [h.edges]; exact Sg.off_strict _ rfl bs h.chain h.good a b hab hb
theorem Mz.poss (h : Mz d s room used names base every x bs) (a b : Nat) (hab : a < b) (hb : b ≤ bs.length) : (Sg.ed s.edges a).pos < (Sg.ed s.edges b).pos := by
  rw [h.edges]; exact Sg.pos_strict _ rfl rfl bs a b hab hb
theorem Mz.edOff (h : Mz d s room used names base every x bs) (k : Nat) (hk : k < bs.length) : (Sg.ed s.edges k).off = bs[k].base := by
  rw [h.edges]; exact (Sg.ed_base _ rfl bs h.chain k hk).symm
theorem Mz.edPos (h : Mz d s room used names base every x bs) (k : Nat) (hk : k ≤ bs.length) : (Sg.ed s.edges k).pos = (((bs.take k).flatMap Rc.bytes).length : Int) := by
  rw [h.edges]; exact Sg.ed_pos _ rfl rfl bs k hk
theorem Mz.edLast (h : Mz d s room used names base every x bs) : Sg.ed s.edges bs.length = Sg.last s.edges := by
  unfold Sg.last; rw [h.len]; rfl
theorem Mz.offMono (h : Mz d s room used names base every x bs) (a b : Nat) (hab : a ≤ b) (hb : b < s.edges.length) : (Sg.ed s.edges a).off ≤ (Sg.ed s.edges b).off := by
  rw [h.len] at hb
  rcases Nat.lt_or_ge a b with h1 | h1
  · have := h.offs a b h1 (by omega); omega
  · obtain rfl : a = b := by omega
    omega
theorem Mz.posMono (h : Mz d s room used names base every x bs) (a b : Nat) (hab : a ≤ b) (hb : b < s.edges.length) : (Sg.ed s.edges a).pos ≤ (Sg.ed s.edges b).pos := by
  rw [h.len] at hb
  rcases Nat.lt_or_ge a b with h1 | h1
  · have := h.poss a b h1 (by omega); omega
  · obtain rfl : a = b := by omega
    omega
theorem Mz.addF (h : Mz d s room used names base every x bs) (b : Rc.Bat) (hg : Rc.Good b) (hf : Sg.follows s.edges b = true) (hr : ((Rc.bytes b).length : Int) ≤ room - used) :
    ∃ d', sgApp d s b = (none, d', s.add b (Rc.bytes b).length) ∧ Mz d' (s.add b (Rc.bytes b).length) room (used + (Rc.bytes b).length) names base every x (bs ++ [b]) ∧ (d'.files x).synced = (d.files x).synced ∧ ∀ y, y ≠ x → d'.files y = d.files y := by
  obtain ⟨d', e, hm, hy⟩ := h.add b hg hf hr
  obtain ⟨d2, e2, -, hs, -⟩ := h.has.appendF s.file x (Rc.bytes b) (by rw [h.file]; exact h.nm) hr
  have e3 := e
  unfold sgApp at e3
  rw [if_neg (by rw [(Rc.bad_good b).2 hg]; simp), if_neg (by rw [hf]; simp), e2, if_pos rfl] at e3
  injection e3 with _ e3
  injection e3 with e3 _
  subst e3
  exact ⟨_, e, hm, by rw [hs], hy⟩
theorem Mz.sync (h : Mz d s room used names base every x bs) :
    ∃ d2 s2, sgSync d s = (none, d2, s2) ∧ Mz d2 s2 room used names base every x bs ∧ d2.files x = { d.files x with synced := (d.files x).bytes.length } ∧ (∀ y, y ≠ x → d2.files y = d.files y) ∧ s2.edges = s.edges := by
  obtain ⟨z, hz⟩ := h
  have hf : s.file = Nm.seg base := hz.file
  obtain ⟨d2, e, hh, hx, hy⟩ := hz.has.syncF s.file x (by rw [hf]; exact hz.nm)
  refine ⟨d2, { s with synced := (Sg.last s.edges).pos }, ?_, ⟨(Sg.last s.edges).pos, hh, rfl, rfl, hz.nm, by rw [hx]; exact hz.bytes, ?_, hz.chain.sync _, hz.good⟩, hx, hy, rfl⟩
  · unfold sgSync
    rw [e, if_pos rfl]
  · have e1 := hz.seg
    rw [Sg.adds_sync] at e1 ⊢
    rw [e1]
/-- Cut at the j-th edge. -/
theorem Mz.cutAt (h : Mz d s room used names base every x bs) (j : Nat) (hj : j ≤ bs.length) (o : Int) (ho : (Sg.ed s.edges j).off = o) :
    ∃ d2 s2 used2, sgCut d s o = (none, d2, s2) ∧ Mz d2 s2 room used2 names base every x (bs.take j) ∧ used2 ≤ used ∧ d2.files x = (d.files x).keep ((bs.take j).flatMap Rc.bytes).length ∧ (∀ y, y ≠ x → d2.files y = d.files y) ∧ (Sg.last s2.edges).off = o := by
  have hl := h.len
  have hn : Sg.cnt s.edges (fun e => decide (o < e.off)) = j + 1 := Sg.cnt_eq s.edges _ (j + 1) (by omega) (fun i hi => decide_eq_false (by have := h.offMono i j (by omega) (by omega); omega)) (fun i h1 h2 => decide_eq_true (by have := h.offs j i (by omega) (by omega); omega))
  have hp := h.edPos j hj
  have hm := h
  obtain ⟨z, hz⟩ := h
  have hf : s.file = Nm.seg base := hz.file
  have hle : ((bs.take j).flatMap Rc.bytes).length ≤ (d.files x).bytes.length := by
    rw [hz.bytes]
    have := Sg.flat_take_le bs j bs.length hj
    rwa [List.take_length] at this
  obtain ⟨d2, used2, e, hh, hu, hx, hy⟩ := hz.has.cut s.file x _ (by rw [hf]; exact hz.nm) hle
  have hb2 : (d2.files x).bytes = (bs.take j).flatMap Rc.bytes := by
    rw [hx]
    show (d.files x).bytes.take _ = _
    rw [hz.bytes]
    have e1 : bs.flatMap Rc.bytes = (bs.take j).flatMap Rc.bytes ++ (bs.drop j).flatMap Rc.bytes := by rw [← List.flatMap_append, List.take_append_drop]
    rw [e1, List.take_left']
    rfl
  have hed : s.edges.take (j + 1) = (Sg.adds (Sg.begin (Nm.seg base) base every) (bs.take j)).edges := by
    rw [hm.edges]; exact Sg.adds_take _ rfl bs j hj
  have hlast : (Sg.last (s.edges.take (j + 1))).off = o := by rw [Sg.last_take _ _ (by omega) (by omega), Nat.add_sub_cancel, ho]
  refine ⟨d2, { s with edges := s.edges.take (j + 1), synced := (Sg.ed s.edges j).pos }, used2, ?_, ⟨(Sg.ed s.edges j).pos, hh, rfl, rfl, hz.nm, hb2, ?_, ?_, fun b hb => hz.good b (List.mem_of_mem_take hb)⟩, hu, hx, hy, hlast⟩
  · unfold sgCut
    simp only [hn, Nat.add_sub_cancel]
    rw [if_neg (by rintro (h1 | h1); omega; exact h1 ho), hp, e, if_pos rfl]
  · have e1 := hz.seg
    rw [Sg.adds_sync] at e1
    rw [Sg.adds_sync]
    refine Sg.St.same ?_ ?_ hed rfl
    · show s.file = (Sg.adds _ _).file
      rw [(Sg.adds_file _ _).1]; exact hf
    · show s.every = (Sg.adds _ _).every
      rw [(Sg.adds_file _ _).2.1, e1]
      exact (Sg.adds_file _ _).2.1
  · have := hm.chain
    rw [← List.take_append_drop j bs] at this
    exact (Sg.Chain.append.1 this).1.sync _
theorem Mz.cutNo (h : Mz d s room used names base every x bs) (o : Int) (hno : ∀ j, j ≤ bs.length → (Sg.ed s.edges j).off ≠ o) : sgCut d s o = (some 14, d, s) := by
  have hl := h.len
  have hc := cnt_le s.edges (fun e => decide (o < e.off))
  unfold sgCut
  simp only
  by_cases h0 : Sg.cnt s.edges (fun e => decide (o < e.off)) = 0
  · rw [if_pos (.inl h0)]
  · rw [if_pos (.inr (hno _ (by omega)))]
/-- What is synced, where so many of its batches are. -/
theorem Mz.syncedAt (h : Mz d s room used names base every x bs) (m : Nat) (hm : m ≤ bs.length) (hs : (d.files x).synced = ((bs.take m).flatMap Rc.bytes).length) :
    sgSynced d s = (Sg.ed s.edges m).off ∧ 1 ≤ Sg.cnt s.edges (fun e => decide (sgSyncedN d s < e.pos)) := by
  have hl := h.len
  have hp := h.edPos m hm
  have hf : s.file = Nm.seg base := h.file
  have hN : sgSyncedN d s = (Sg.ed s.edges m).pos := by
    unfold sgSyncedN
    rw [hf, h.has.find _ x h.nm, if_pos rfl, h.has.synced _ x h.nm, hs, hp]
  have hc : Sg.cnt s.edges (fun e => decide (sgSyncedN d s < e.pos)) = m + 1 := by
    rw [hN]
    exact Sg.cnt_eq s.edges _ (m + 1) (by omega) (fun i hi => decide_eq_false (by have := h.posMono i m (by omega) (by omega); omega)) (fun i h1 h2 => decide_eq_true (by have := h.poss m i (by omega) (by omega); omega))
  unfold sgSynced
  rw [hc, Nat.add_sub_cancel]
  exact ⟨rfl, by omega⟩
end
namespace Dk
theorem order_one {s : St} {k : Nm} {x : Nat} {ys : List Nat} (h : Order s (upd (fun _ => none) k (some x)) ys) : ys = [x] := by
  obtain ⟨l, hv, hp, -⟩ := h
  have e := one_vals (k := k) (i := x) (fun y => by
    by_cases hy : y = k
    · subst hy; rw [upd_same]; simp
    · rw [upd_other _ _ _ _ hy]; simp [hy]) (upd_same _ _ _) hv
  subst e
  exact List.perm_singleton.1 hp
/-- A crash of a disk of one file. -/
theorem Has.crash1 {d : St} {room used : Int} {k : Nm} {x : Nat} (h : Has d room used (upd (fun _ => none) k (some x))) (picks : List Int) (ys : List Nat) (hy : Order (d.settle (pick picks 0 d.since.length)) (d.settle (pick picks 0 d.since.length)).dur ys) (hs : ∀ k ∈ ys, (d.files k).synced ≤ (d.files k).bytes.length) :
    ∃ L, (d.files x).synced ≤ L ∧ L ≤ (d.files x).bytes.length ∧ Has (d.crash picks ys) room L (upd (fun _ => none) k (some x)) ∧ (d.crash picks ys).files x = (d.files x).keep L := by
  obtain ⟨_, v⟩ := h
  have hd : (d.settle (pick picks 0 d.since.length)).dur = upd (fun _ => none) k (some x) := by
    show ons (d.since.take _) d.dur = _
    rw [v.since, v.dur, List.take_nil]
    rfl
  have hy1 := hy
  rw [hd] at hy1
  obtain rfl := order_one hy1
  obtain ⟨m, hm, -, v', hf⟩ := v.crash picks [x] hy hs
  rw [List.take_nil] at v' hf
  have hsy := hs x (List.mem_singleton.2 rfl)
  have hp := pick_le picks 1 ((d.files x).bytes.length - (d.files x).synced)
  have hu : (d.crash picks [x]).used = ((d.files x).synced + pick picks 1 ((d.files x).bytes.length - (d.files x).synced) : Nat) := by
    unfold St.crash St.keepAll St.keepAll St.settle
    simp
  have hfx : (d.crash picks [x]).files x = (d.files x).keep ((d.files x).synced + pick picks 1 ((d.files x).bytes.length - (d.files x).synced)) := by
    unfold St.crash St.keepAll St.keepAll St.settle
    simp [St.setFile]
  refine ⟨(d.files x).synced + pick picks 1 ((d.files x).bytes.length - (d.files x).synced), by omega, by omega, ?_, hfx⟩
  rw [hu] at v'
  exact ⟨_, v'⟩
end Dk
/-- Bytes of batches that were cut off somewhere: whole ones, and less than one. -/
theorem torn (bs : List Rc.Bat) (hg : ∀ b ∈ bs, Rc.Good b) : ∀ L, L ≤ (bs.flatMap Rc.bytes).length → ∃ k, k ≤ bs.length ∧ ((bs.take k).flatMap Rc.bytes).length ≤ L ∧ (k < bs.length → L < ((bs.take (k + 1)).flatMap Rc.bytes).length) ∧ ∃ rest, (bs.flatMap Rc.bytes).take L = (bs.take k).flatMap Rc.bytes ++ rest ∧ Rc.rcode rest ≠ 0 ∧ rest.length = L - ((bs.take k).flatMap Rc.bytes).length := by
  induction bs with
  | nil =>
    intro L hL
    have h0 : L = 0 := by simpa using hL
    subst h0
    exact ⟨0, Nat.le_refl _, Nat.le_refl _, fun h => absurd h (by simp), [], rfl, Sg.rcode_nil, rfl⟩
  | cons b bs ih =>
    intro L hL
    have gb := hg b List.mem_cons_self
    rw [List.flatMap_cons, List.length_append] at hL
    rcases Nat.lt_or_ge L (Rc.bytes b).length with h | h
    · refine ⟨0, Nat.zero_le _, Nat.zero_le _, fun _ => by simp; omega, (Rc.bytes b).take L, ?_, ?_, ?_⟩
      · rw [List.flatMap_cons, List.take_append_of_le_length (by omega)]
        rfl
      · rw [Rc.cut_short b gb L h]; simp
      · rw [List.length_take]; simp; omega
    · obtain ⟨k, hk, h1, h2, rest, h3, h4, h5⟩ := ih (fun c hc => hg c (List.mem_cons_of_mem _ hc)) (L - (Rc.bytes b).length) (by omega)
      refine ⟨k + 1, by simp; omega, ?_, fun hlt => ?_, rest, ?_, h4, ?_⟩
      · rw [List.take_succ_cons, List.flatMap_cons, List.length_append]; omega
      · have := h2 (by simpa using hlt)
        rw [List.take_succ_cons, List.flatMap_cons, List.length_append]; omega
      · rw [List.take_succ_cons, List.flatMap_cons, List.flatMap_cons, List.take_append, List.take_of_length_le h, h3, List.append_assoc]
      · rw [List.take_succ_cons, List.flatMap_cons, List.length_append, h5]; omega
end Go.Proofs.YtfdppggdgdnnaaaGreatDoor

namespace Go.Proofs.YtfdppggdgdnnaaaGreatDoor
open Go.RowKit Go.Maps Go.Sort

theorem sgOpen_torn (w0 w : World) (S : Nat → Prop) (n Bd : Nat) (d : Dk.St) (base every : Int) (p : Nat → Addr) (h : SessS S w0 n Bd d w) (hs : SentsG w0 p) (hn : n ≤ 990) (h0 : 0 ≤ base ∧ base ≤ 1099511627776) (h1 : 1 ≤ every ∧ every ≤ 1048576) (ht : Tabs w0) (hpt : PowTab w0)
    {room used : Int} {names : Dk.Dir} {x : Nat} {bs : List Rc.Bat} (hh : Dk.Has d room used names) (hnm : names (Nm.seg base) = some x) (hch : Sg.Chain (Sg.begin (Nm.seg base) base every) bs) (hg : ∀ b ∈ bs, Rc.Good b) (L : Nat) (hL : L ≤ (bs.flatMap Rc.bytes).length) (hb : (d.files x).bytes = (bs.flatMap Rc.bytes).take L) (hl : (bs.flatMap Rc.bytes).length ≤ 80000) :
    ∃ k d3 s3 u, k ≤ bs.length ∧ ((bs.take k).flatMap Rc.bytes).length ≤ L ∧ (k < bs.length → L < ((bs.take (k + 1)).flatMap Rc.bytes).length) ∧ Mz d3 s3 room u names base every x (bs.take k) ∧ u ≤ used ∧ (d3.files x).synced = ((bs.take k).flatMap Rc.bytes).length ∧ (∀ y, y ≠ x → d3.files y = d.files y) ∧
    Calls Tryz.prog 40 #[.pointer (some ⟨Bd, 0, none⟩), .int .i64 base, .int .i64 every] w fun e w' => ∃ X S' T', e = .returned (.tuple #[.pointer (some ⟨X, 0, none⟩), .int .i64 ((L : Int) - ((bs.take k).flatMap Rc.bytes).length), .nilIface]) ∧ SgW w0 S' T' (n + 2) Bd d3 X s3 w' ∧ Chg S w w' ∧ (∀ k, (S' k ∨ T' k) → Up S w w' k) := by
  obtain ⟨k, hk, hk1, hk2, rest, hr, hrc, hrl⟩ := torn bs hg L hL
  have hlen : ((bs.flatMap Rc.bytes).take L).length = L := by rw [List.length_take]; omega
  have hraw := hb
  rw [hr] at hraw
  have hrawl : ((bs.take k).flatMap Rc.bytes ++ rest).length = L := by rw [← hr]; exact hlen
  have hck : Sg.Chain (Sg.begin (Nm.seg base) base every) (bs.take k) := by
    have h2 := hch
    rw [← List.take_append_drop k bs] at h2
    exact (Sg.Chain.append.1 h2).1
  have hgk : ∀ b ∈ bs.take k, Rc.Good b := fun b hb => hg b (List.mem_of_mem_take hb)
  have htk := Sg.take_adds (bs.take k) (Sg.begin (Nm.seg base) base every) rfl hck hgk rest hrc
  have hpos : (Sg.last (Sg.adds (Sg.begin (Nm.seg base) base every) (bs.take k)).edges).pos = (((bs.take k).flatMap Rc.bytes).length : Nat) := by
    rw [Sg.adds_pos]
    show (0 : Int) + _ = _
    omega
  have hle0 := hh.len (Nm.seg base) x hnm
  rw [hraw] at hle0
  have hrd0 := hh.read (Nm.seg base) x _ hnm rfl
  rw [hraw] at hrd0
  have hfi := hh.find (Nm.seg base) x hnm
  obtain ⟨d2, u, hc2, hh2, hu2, hb2, hot2⟩ : ∃ d2 u, (if (((bs.take k).flatMap Rc.bytes).length : Int) < (((bs.take k).flatMap Rc.bytes ++ rest).length : Nat) then d.cut (Nm.seg base) (((bs.take k).flatMap Rc.bytes).length : Nat) else (none, d)) = (none, d2) ∧ Dk.Has d2 room u names ∧ u ≤ used ∧ (d2.files x).bytes = (bs.take k).flatMap Rc.bytes ∧ ∀ y, y ≠ x → d2.files y = d.files y := by
    by_cases hlt : (((bs.take k).flatMap Rc.bytes).length : Int) < (((bs.take k).flatMap Rc.bytes ++ rest).length : Nat)
    · obtain ⟨d2, u, e, hh2, hu, hf2, ho2⟩ := hh.cut (Nm.seg base) x ((bs.take k).flatMap Rc.bytes).length hnm (by rw [hraw]; omega)
      refine ⟨d2, u, by rw [if_pos hlt]; exact e, hh2, hu, ?_, ho2⟩
      rw [hf2]
      show (d.files x).bytes.take _ = _
      rw [hraw, List.take_left']
      rfl
    · refine ⟨d, used, if_neg hlt, hh, Int.le_refl _, ?_, fun _ _ => rfl⟩
      have h0 : rest = [] := List.eq_nil_of_length_eq_zero (by rw [List.length_append] at hlt; omega)
      rw [hraw, h0, List.append_nil]
  obtain ⟨d3, hy3, hh3, hf3, ho3⟩ := hh2.syncF (Nm.seg base) x hnm
  refine ⟨k, d3, { Sg.adds (Sg.begin (Nm.seg base) base every) (bs.take k) with synced := (((bs.take k).flatMap Rc.bytes).length : Nat) }, u, hk, hk1, hk2, ⟨(((bs.take k).flatMap Rc.bytes).length : Nat), hh3, rfl, rfl, hnm, by rw [hf3]; exact hb2, (Sg.adds_sync _ _ _).symm, hck.sync _, hgk⟩, hu2, by rw [hf3]; show (d2.files x).bytes.length = _; rw [hb2], fun y hy => by rw [ho3 y hy, hot2 y hy], ?_⟩
  have hop := sgOpen_good w0 w S n Bd d base every p h hs hn h0 h1 ht hpt ((bs.take k).flatMap Rc.bytes ++ rest) _ (((bs.take k).flatMap Rc.bytes).length : Nat) d2 d3 (by rw [hfi]) hle0 hrd0 (by omega) htk hpos (by rw [hrawl]; omega) hc2 hy3
  rw [hrawl] at hop
  exact hop
/-- A row of batches in new memory stays, whatever happens to elder blocks. -/
theorem BRow.chg {S : Nat → Prop} {w w' : World} {lo : Nat} {v : Value} {qs : List PBat} (h : BRow w lo v qs) (hc : Chg S w w') (hS : ∀ k, S k → k < lo) : BRow w' lo v qs :=
  ⟨ownsRow_same h.own fun g hg => hc.block g (h.own.lt g hg).2 fun hs => by have := hS g hs; have := (h.own.lt g hg).1; omega, fun q hq => by
    obtain ⟨l0, wk, h0, h1, h2, h3⟩ := h.el q hq
    refine ⟨l0, wk, h0, h1, ⟨Nat.le_trans h2.size hc.size, fun k k1 k2 => ?_⟩, h3⟩
    have h4 := h2.size
    rw [hc.block k (by omega) fun hs => by have := hS k hs; omega]
    exact h2.block k k1 k2⟩
theorem BRow.bats {w : World} {lo n c : Nat} {A : Option Addr} {qs : List PBat} (h : BRow w lo (.slice A n c) qs) : Bats w A (qs.map (·.b)) := by
  obtain ⟨A', c', e, -, -, hb⟩ := h.val
  injection e with e1 _ _
  subst e1
  exact hb
end Go.Proofs.YtfdppggdgdnnaaaGreatDoor
