/-
  A segment made of batches: opened again; beside others on its disk; read from a batch's beginning on.
  The edges of a segment made of batches: their offsets and places rise.
-/
import Derived.Test.YtfdppggdgdnnaaaGreatDoorZ19
import Derived.Test.YtfdppggdgdnnaaaGreatDoorZ16
namespace Go.Proofs.YtfdppggdgdnnaaaGreatDoor
open Go.RowKit Go.Maps Go.Sort

namespace Sg
theorem adds_sync (z : Int) (bs : List Rc.Bat) : ∀ s : St, adds { s with synced := z } bs = { adds s bs with synced := z } := by
  induction bs with
  | nil => intro s; rfl
  | cons b bs ih => intro s; rw [adds_cons, adds_cons]; exact ih (s.add b (Rc.bytes b).length)
theorem Chain.sync (z : Int) {bs : List Rc.Bat} : ∀ {s : St}, Chain s bs → Chain { s with synced := z } bs := by
  induction bs with
  | nil => intro s _; trivial
  | cons b bs ih => intro s h; exact ⟨h.1, ih h.2⟩
end Sg
/-- A segment of these batches, by its base, and its disk. -/
def Mz (d : Dk.St) (s : Sg.St) (room used : Int) (names : Dk.Dir) (base every : Int) (x : Nat) (bs : List Rc.Bat) : Prop :=
  ∃ z, Md d s room used names { Sg.begin (Nm.seg base) base every with synced := z } x bs
section
variable {d d' : Dk.St} {s : Sg.St} {room used used' base every : Int} {names names' : Dk.Dir} {x : Nat} {bs : List Rc.Bat}
theorem Md.mz (h : Md d s room used names (Sg.begin (Nm.seg base) base every) x bs) : Mz d s room used names base every x bs := ⟨0, h⟩
theorem Mz.beside (h : Mz d s room used names base every x bs) (hd : Dk.Has d' room used' names') (hn : names' (Nm.seg base) = some x) (hf : (d'.files x).bytes = (d.files x).bytes) : Mz d' s room used' names' base every x bs := by
  obtain ⟨z, h⟩ := h
  exact ⟨z, hd, h.one, h.zero, hn, by rw [hf]; exact h.bytes, h.seg, h.chain, h.good⟩
theorem Mz.has (h : Mz d s room used names base every x bs) : Dk.Has d room used names := by obtain ⟨z, h⟩ := h; exact h.has
theorem Mz.nm (h : Mz d s room used names base every x bs) : names (Nm.seg base) = some x := by obtain ⟨z, h⟩ := h; exact h.nm
theorem Mz.file (h : Mz d s room used names base every x bs) : s.file = Nm.seg base := by obtain ⟨z, h⟩ := h; exact h.file
theorem Mz.len (h : Mz d s room used names base every x bs) : s.edges.length = bs.length + 1 := by obtain ⟨z, h⟩ := h; exact h.len
theorem Mz.pos (h : Mz d s room used names base every x bs) : (Sg.last s.edges).pos = ((bs.flatMap Rc.bytes).length : Int) := by obtain ⟨z, h⟩ := h; exact h.pos
theorem Mz.good (h : Mz d s room used names base every x bs) : ∀ b ∈ bs, Rc.Good b := by obtain ⟨z, h⟩ := h; exact h.good
theorem Mz.edges (h : Mz d s room used names base every x bs) : s.edges = (Sg.adds (Sg.begin (Nm.seg base) base every) bs).edges := by
  obtain ⟨z, h⟩ := h
  rw [h.seg, Sg.adds_sync]
theorem Mz.chain (h : Mz d s room used names base every x bs) : Sg.Chain (Sg.begin (Nm.seg base) base every) bs := by
  obtain ⟨z, h⟩ := h
  exact h.chain.sync 0
theorem Mz.add (h : Mz d s room used names base every x bs) (b : Rc.Bat) (hg : Rc.Good b) (hf : Sg.follows s.edges b = true) (hr : ((Rc.bytes b).length : Int) ≤ room - used) :
    ∃ d', sgApp d s b = (none, d', s.add b (Rc.bytes b).length) ∧ Mz d' (s.add b (Rc.bytes b).length) room (used + (Rc.bytes b).length) names base every x (bs ++ [b]) ∧ ∀ y, y ≠ x → d'.files y = d.files y := by
  obtain ⟨z, h⟩ := h
  obtain ⟨d', e, hm⟩ := h.add b hg hf hr
  obtain ⟨d2, e2, -, -, hy⟩ := h.has.append s.file x (Rc.bytes b) (by rw [h.file]; exact h.nm) hr
  have e3 := e
  unfold sgApp at e3
  rw [if_neg (by rw [(Rc.bad_good b).2 hg]; simp), if_neg (by rw [hf]; simp), e2, if_pos rfl] at e3
  injection e3 with _ e3
  injection e3 with e3 _
  subst e3
  exact ⟨_, e, ⟨z, hm⟩, hy⟩
end
/-- Append, where there is room. -/
theorem sgAppend_mz (w0 w : World) (S T : Nat → Prop) (n Bd X : Nat) (d : Dk.St) (s : Sg.St) (p : Nat → Addr) (b : Rc.Bat) (A : Option Addr) (cap m : Nat) (h : SgW w0 S T n Bd d X s w) (hs : SentsG w0 p) (ht : Tabs w0) (hn : n ≤ 1000)
    {room used base every : Int} {names : Dk.Dir} {x : Nat} {bs : List Rc.Bat} (hm : Mz d s room used names base every x bs) (hl : bs.length ≤ 80000) (hp : (bs.flatMap Rc.bytes).length ≤ 900000000)
    (hb : ∀ W, Chg (fun k => S k ∨ T k) w W → IsBat W A cap b) (hmm : b.recs.length = m) (hg : Rc.Good b) (hf : Sg.follows s.edges b = true) (hlen : (Rc.bytes b).length ≤ 1000) (hr : ((Rc.bytes b).length : Int) ≤ room - used) :
    ∃ d', Mz d' (s.add b (Rc.bytes b).length) room (used + (Rc.bytes b).length) names base every x (bs ++ [b]) ∧ (∀ y, y ≠ x → d'.files y = d.files y) ∧
    Calls Tryz.prog 34 #[.pointer (some ⟨X, 0, none⟩), batV b.base b.epoch A m cap] w fun e w' => e = .returned .nilIface ∧ SgPost w0 S T (n + 1) Bd d' X (s.add b (Rc.bytes b).length) w w' := by
  obtain ⟨d', e, hm', hy⟩ := hm.add b hg hf hr
  refine ⟨d', hm', hy, ?_⟩
  have hc := sgAppend_any w0 w S T n Bd X d s p b A cap m h hs ht hn (by rw [hm.len]; omega) (by rw [hm.pos]; omega) hb hmm (fun _ => hlen)
  rw [e] at hc
  exact hc
/-- Open, where the file has these batches. -/
theorem sgOpen_mz (w0 w : World) (S : Nat → Prop) (n Bd : Nat) (d : Dk.St) (base every : Int) (p : Nat → Addr) (h : SessS S w0 n Bd d w) (hs : SentsG w0 p) (hn : n ≤ 990) (h0 : 0 ≤ base ∧ base ≤ 1099511627776) (h1 : 1 ≤ every ∧ every ≤ 1048576) (ht : Tabs w0) (hpt : PowTab w0)
    {s : Sg.St} {room used every' : Int} {names : Dk.Dir} {x : Nat} {bs : List Rc.Bat} (hm : Mz d s room used names base every' x bs) (hl : (bs.flatMap Rc.bytes).length ≤ 80000) :
    ∃ d3 s3, Mz d3 s3 room used names base every x bs ∧ (d3.files x).bytes = (d.files x).bytes ∧ (∀ y, y ≠ x → d3.files y = d.files y) ∧ s3.synced = ((bs.flatMap Rc.bytes).length : Nat) ∧
    Calls Tryz.prog 40 #[.pointer (some ⟨Bd, 0, none⟩), .int .i64 base, .int .i64 every] w fun e w' => ∃ X S' T', e = .returned (.tuple #[.pointer (some ⟨X, 0, none⟩), .int .i64 0, .nilIface]) ∧ SgW w0 S' T' (n + 2) Bd d3 X s3 w' ∧ Chg S w w' ∧ (∀ k, (S' k ∨ T' k) → Up S w w' k) := by
  obtain ⟨z, hz⟩ := hm
  obtain ⟨d3, hsy, hh, hb, hy⟩ := hz.has.sync (Nm.seg base) x hz.nm
  have hraw := hz.bytes
  have hlen0 := hz.has.len (Nm.seg base) x hz.nm
  rw [hraw] at hlen0
  have hrd0 := hz.has.read (Nm.seg base) x _ hz.nm rfl
  rw [hraw] at hrd0
  have hfind := hz.has.find (Nm.seg base) x hz.nm
  have hch0 : ∀ (bs : List Rc.Bat) (s t : Sg.St), s.edges = t.edges → Sg.Chain s bs → Sg.Chain t bs := by
    intro bs
    induction bs with
    | nil => intro s t _ _; trivial
    | cons b bs ih =>
      intro s t e hc
      exact ⟨by rw [← e]; exact hc.1, ih (s.add b (Rc.bytes b).length) (t.add b (Rc.bytes b).length) (by simp only [Sg.St.add]; rw [e]) hc.2⟩
  have hch : Sg.Chain (Sg.begin (Nm.seg base) base every) bs := hch0 bs { Sg.begin (Nm.seg base) base every' with synced := z } (Sg.begin (Nm.seg base) base every) rfl hz.chain
  have htk := Sg.take_adds bs (Sg.begin (Nm.seg base) base every) rfl hch hz.good [] Sg.rcode_nil
  rw [List.append_nil] at htk
  have hpos : (Sg.last (Sg.adds (Sg.begin (Nm.seg base) base every) bs).edges).pos = ((bs.flatMap Rc.bytes).length : Nat) := by
    rw [Sg.adds_pos]
    show (0 : Int) + _ = _
    omega
  refine ⟨d3, { Sg.adds (Sg.begin (Nm.seg base) base every) bs with synced := ((bs.flatMap Rc.bytes).length : Nat) }, ⟨((bs.flatMap Rc.bytes).length : Nat), hh, rfl, rfl, hz.nm, by rw [hb, hraw], (Sg.adds_sync _ _ _).symm, hch.sync _, hz.good⟩, hb, hy, rfl, ?_⟩
  have hop := sgOpen_good w0 w S n Bd d base every p h hs hn h0 h1 ht hpt (bs.flatMap Rc.bytes) _ ((bs.flatMap Rc.bytes).length : Nat) d d3 (by rw [hfind]) hlen0 hrd0 hl htk hpos (by omega) (if_neg (by omega)) hsy
  rw [Int.sub_self] at hop
  exact hop
theorem cutB_zero (b : Rc.Bat) : cutB b b.base 0 = b := by cases b; rfl
/-- Read from a batch's beginning on. -/
theorem Md.readAt {d : Dk.St} {s s0 : Sg.St} {room used : Int} {names : Dk.Dir} {x : Nat} {bs : List Rc.Bat} (h : Md d s room used names s0 x bs) (hl : (bs.flatMap Rc.bytes).length ≤ 1000000) (most : Int) (k : Nat) (hk : k < bs.length) :
    ∃ f fin : Nat, ReadH d s bs[k].base most k 0 f fin bs[k] ((bs.drop (k + 1)).take (fin - (k + 1))) ∧ k + 1 ≤ fin ∧ fin ≤ bs.length ∧ (((bs.flatMap Rc.bytes).length : Int) ≤ most → fin = bs.length) := by
  have g := h.good bs[k] (List.getElem_mem hk)
  obtain ⟨f, fin, hf, hfin, hle, hr⟩ := h.read hl bs[k].base most k 0 hk (by simp) g.n0
  refine ⟨f, fin, hr, by omega, hle, fun hm => ?_⟩
  rw [cutB_zero] at hf
  have hlen := h.len
  have e1 : (Sg.ed s.edges (k + 1)).pos = (((bs.take (k + 1)).flatMap Rc.bytes).length : Int) := by
    rw [h.seg]; exact Sg.ed_pos s0 h.one h.zero bs (k + 1) (by omega)
  have e2 : ((bs.take (k + 1)).flatMap Rc.bytes).length = ((bs.take k).flatMap Rc.bytes).length + (Rc.bytes bs[k]).length := by
    rw [List.take_succ_eq_append_getElem hk, List.flatMap_append, List.length_append]; simp
  have hc := Sg.cnt_eq s.edges (fun e => decide (most < e.pos - ((Sg.ed s.edges (k + 1)).pos - (Rc.bytes bs[k]).length))) s.edges.length (Nat.le_refl _) (fun i hi => by
    have hp : (Sg.ed s.edges i).pos ≤ (((bs.take bs.length).flatMap Rc.bytes).length : Int) := by
      rw [h.seg, Sg.ed_pos s0 h.one h.zero bs i (by omega)]
      have := Sg.flat_take_le bs i bs.length (by omega)
      omega
    rw [List.take_length] at hp
    exact decide_eq_false (by omega)) (fun i h1 h2 => absurd h2 (by omega))
  rw [hc] at hf
  omega
theorem sgRead_mz (w0 w : World) (S T : Nat → Prop) (n Bd X : Nat) (d : Dk.St) (s : Sg.St) (p : Nat → Addr) (h : SgW w0 S T n Bd d X s w) (hs : SentsG w0 p) (ht : Tabs w0) (hn : n ≤ 1000)
    {room used base every : Int} {names : Dk.Dir} {x : Nat} {bs : List Rc.Bat} (hm : Mz d s room used names base every x bs) (hl : (bs.flatMap Rc.bytes).length ≤ 1000000) (most : Int) (k : Nat) (hk : k < bs.length) :
    ∃ fin : Nat, k + 1 ≤ fin ∧ fin ≤ bs.length ∧ (((bs.flatMap Rc.bytes).length : Int) ≤ most → fin = bs.length) ∧
    Calls Tryz.prog 28 #[.pointer (some ⟨X, 0, none⟩), .int .i64 bs[k].base, .int .i64 most] w fun e w' => ∃ v qs, e = .returned (.tuple #[v, .nilIface]) ∧ BRow w' w.heap.size v qs ∧ qs.map (·.b) = (bs.drop k).take (fin - k) ∧ Below w.heap.size w w' := by
  obtain ⟨z, hz⟩ := hm
  have g := hz.good bs[k] (List.getElem_mem hk)
  obtain ⟨f, fin, hr, h1, h2, h3⟩ := hz.readAt hl most k hk
  refine ⟨fin, h1, h2, h3, (sgRead_good w0 w S T n Bd X d s p h hs ht hn bs[k].base most (by have := g.base0; have := g.base1; omega) k 0 f fin _ _ hr).mono ?_⟩
  rintro e w' ⟨v, qs, he, hb, hq, hw⟩
  refine ⟨v, qs, he, hb, ?_, hw⟩
  rw [hq, cutB_zero, List.drop_eq_getElem_cons hk, show fin - k = (fin - (k + 1)) + 1 by omega, List.take_succ_cons]
end Go.Proofs.YtfdppggdgdnnaaaGreatDoor

namespace Go.Proofs.YtfdppggdgdnnaaaGreatDoor
open Go.RowKit Go.Maps Go.Sort

namespace Sg
theorem adds_pre (bs : List Rc.Bat) : ∀ s : St, ∃ l, (adds s bs).edges = s.edges ++ l := by
  induction bs with
  | nil => intro s; exact ⟨[], by rw [List.append_nil]; rfl⟩
  | cons b bs ih =>
    intro s
    obtain ⟨l, hl⟩ := ih (s.add b (Rc.bytes b).length)
    exact ⟨_, by rw [adds_cons, hl]; simp only [St.add]; rw [List.append_assoc]⟩
theorem adds_take (s : St) (h1 : s.edges.length = 1) (bs : List Rc.Bat) (j : Nat) (hj : j ≤ bs.length) : (adds s bs).edges.take (j + 1) = (adds s (bs.take j)).edges := by
  have hl : (adds s (bs.take j)).edges.length = j + 1 := by rw [adds_len, h1, List.length_take]; omega
  obtain ⟨l, e⟩ := adds_pre (bs.drop j) (adds s (bs.take j))
  rw [← adds_append, List.take_append_drop] at e
  rw [e, ← hl, List.take_left']
  rfl
theorem off_strict (s : St) (h1 : s.edges.length = 1) (bs : List Rc.Bat) (hc : Chain s bs) (hg : ∀ b ∈ bs, Rc.Good b) (a b : Nat) (hab : a < b) (hb : b ≤ bs.length) : (ed (adds s bs).edges a).off < (ed (adds s bs).edges b).off := by
  have e1 := ed_base s h1 bs hc a (by omega)
  have e2 := ed_next s h1 bs a (by omega)
  have g := (hg _ (List.getElem_mem (show a < bs.length by omega))).n0
  have h3 := off_mono s h1 bs hc (a + 1) b (by omega) (by rw [adds_len]; omega)
  omega
theorem pos_strict (s : St) (h1 : s.edges.length = 1) (h0 : (last s.edges).pos = 0) (bs : List Rc.Bat) (a b : Nat) (hab : a < b) (hb : b ≤ bs.length) : (ed (adds s bs).edges a).pos < (ed (adds s bs).edges b).pos := by
  have h3 := pos_mono s h1 h0 bs (a + 1) b (by omega) (by rw [adds_len]; omega)
  have e1 := ed_pos s h1 h0 bs a (by omega)
  have e2 := ed_pos s h1 h0 bs (a + 1) (by omega)
  rw [List.take_succ_eq_append_getElem (show a < bs.length by omega), List.flatMap_append, List.length_append] at e2
  have h4 : (List.flatMap Rc.bytes [bs[a]]).length = (Rc.bytes bs[a]).length := by simp
  have h5 := Rc.bytes_len bs[a]
  omega
theorem St.same {a b : St} (h1 : a.file = b.file) (h2 : a.every = b.every) (h3 : a.edges = b.edges) (h4 : a.synced = b.synced) : a = b := by
  cases a; cases b; simp only at h1 h2 h3 h4; subst h1 h2 h3 h4; rfl
end Sg
section
variable {d d' : Dk.St} {s : Sg.St} {room used base every : Int} {names : Dk.Dir} {x : Nat} {bs : List Rc.Bat}
theorem Mz.offs (h : Mz d s room used names base every x bs) (a b : Nat) (hab : a < b) (hb : b ≤ bs.length) : (Sg.ed s.edges a).off < (Sg.ed s.edges b).off := by
  rw [h.edges]; exact Sg.off_strict _ rfl bs h.chain h.good a b hab hb
theorem Mz.poss (h : Mz d s room used names base every x bs) (a b : Nat) (hab : a < b) (hb : b ≤ bs.length) : (Sg.ed s.edges a).pos < (Sg.ed s.edges b).pos := by
  rw [h.edges]; exact Sg.pos_strict _ rfl rfl bs a b hab hb
theorem Mz.edOff (h : Mz d s room used names base every x bs) (k : Nat) (hk : k < bs.length) : (Sg.ed s.edges k).off = bs[k].base := by
  rw [h.edges]; exact (Sg.ed_base _ rfl bs h.chain k hk).symm
theorem Mz.edPos (h : Mz d s room used names base every x bs) (k : Nat) (hk : k ≤ bs.length) : (Sg.ed s.edges k).pos = (((bs.take k).flatMap Rc.bytes).length : Int) := by
  rw [h.edges]; exact Sg.ed_pos _ rfl rfl bs k hk
theorem Mz.edLast (h : Mz d s room used names base every x bs) : Sg.ed s.edges bs.length = Sg.last s.edges := by
  unfold Sg.last; rw [h.len]; rfl
theorem Mz.offMono (h : Mz d s room used names base every x bs) (a b : Nat) (hab : a ≤ b) (hb : b < s.edges.length) : (Sg.ed s.edges a).off ≤ (Sg.ed s.edges b).off := by
  rw [h.len] at hb
  rcases Nat.lt_or_ge a b with h1 | h1
  · have := h.offs a b h1 (by omega); omega
  · obtain rfl : a = b := by omega
    omega
theorem Mz.posMono (h : Mz d s room used names base every x bs) (a b : Nat) (hab : a ≤ b) (hb : b < s.edges.length) : (Sg.ed s.edges a).pos ≤ (Sg.ed s.edges b).pos := by
  rw [h.len] at hb
  rcases Nat.lt_or_ge a b with h1 | h1
  · have := h.poss a b h1 (by omega); omega
  · obtain rfl : a = b := by omega
    omega
end
end Go.Proofs.YtfdppggdgdnnaaaGreatDoor
