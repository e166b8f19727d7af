/-
  A log of segments: opened on an empty disk; begun.
  A log of segments by its groups of batches: Append, what is asked of its ends.
  A log of segments, made of batches.
-/
import Derived.Test.YtcmgppacipdnaaaGreatDoorQHtD
import Derived.Test.YtcmgppacipdnaaaGreatDoorQDkLy
import Derived.LoopTactic
import Derived.Deep.LoopGhost
import Derived.Test.YtcmgppacipdnaaaGreatDoorQHtF
import Derived.Test.YtcmgppacipdnaaaGreatDoorQSgN
namespace Go.Proofs.YtcmgppacipdnaaaGreatDoor
open Go.RowKit Go.Maps

/-- A log of these groups of batches, with its disk, by the set of all their blocks. -/
def HtA (w0 : World) (U : Nat → Prop) (n Bd H : Nat) (sz ev room : Int) (gs : List Ht.Gr) (w : World) : Prop :=
  ∃ d S C vs vb qs names, HtL w0 S n Bd d H C sz ev vs vb qs (Ht.bats gs) w ∧ Ht.G d room (Ht.used gs) ev names qs ∧ qs.map (fun q => (q.base, q.bs)) = gs ∧ U = htU S C qs
/-- What is left by a call. -/
def HtAp (w0 : World) (U : Nat → Prop) (n Bd H : Nat) (sz ev room : Int) (gs : List Ht.Gr) (w w' : World) : Prop :=
  ∃ U', HtA w0 U' n Bd H sz ev room gs w' ∧ Chg U w w' ∧ ∀ k, U' k → Up U w w' k
section
variable {w0 w w' w2 : World} {S U : Nat → Prop} {n m Bd H : Nat} {d : Dk.St} {sz ev room : Int} {gs : List Ht.Gr}
theorem HtA.grow (h : HtA w0 U n Bd H sz ev room gs w) (hb : Below w.heap.size w w') : HtA w0 U n Bd H sz ev room gs w' := by
  obtain ⟨d, S, C, vs, vb, qs, names, h1, h2, h3, h4⟩ := h
  exact ⟨d, S, C, vs, vb, qs, names, h1.grow hb, h2, h3, h4⟩
theorem HtA.mono (h : HtA w0 U n Bd H sz ev room gs w) (hm : n ≤ m) : HtA w0 U m Bd H sz ev room gs w := by
  obtain ⟨d, S, C, vs, vb, qs, names, h1, h2, h3, h4⟩ := h
  exact ⟨d, S, C, vs, vb, qs, names, h1.mono hm, h2, h3, h4⟩
theorem HtA.below (h : HtA w0 U n Bd H sz ev room gs w) : Below w0.heap.size w0 w := by
  obtain ⟨d, S, C, vs, vb, qs, names, h1, -⟩ := h
  exact h1.below
theorem HtA.uLo (h : HtA w0 U n Bd H sz ev room gs w) (k : Nat) (hk : U k) : w0.heap.size ≤ k ∧ k < w.heap.size := by
  obtain ⟨d, S, C, vs, vb, qs, names, h1, -, -, rfl⟩ := h
  exact h1.uLo k hk
/-- Nothing of it was changed. -/
theorem HtA.kept (h : HtA w0 U n Bd H sz ev room gs w) {V : Nat → Prop} (hc : Chg V w w') (hV : ∀ k, V k → ¬ U k) (hV0 : ∀ k, V k → w0.heap.size ≤ k) : HtA w0 U n Bd H sz ev room gs w' := by
  obtain ⟨d, S, C, vs, vb, qs, names, h1, h2, h3, rfl⟩ := h
  exact ⟨d, S, C, vs, vb, qs, names, h1.kept hc hV hV0, h2, h3, rfl⟩
theorem HtAp.of_grow (h : HtA w0 U n Bd H sz ev room gs w) (hb : Below w.heap.size w w') : HtAp w0 U n Bd H sz ev room gs w w' := ⟨U, h.grow hb, Chg.of_below hb, fun _ hk => .inl hk⟩
theorem HtAp.grow (h : HtAp w0 U n Bd H sz ev room gs w w') (hb : Below w'.heap.size w' w2) : HtAp w0 U n Bd H sz ev room gs w w2 := by
  obtain ⟨U', h1, h2, h3⟩ := h
  exact ⟨U', h1.grow hb, h2.then (Chg.of_below hb), fun k hk => (h3 k hk).imp_right fun h => by have := hb.size; omega⟩
theorem HtAp.ahead (hb : Below w.heap.size w w') (h : HtAp w0 U n Bd H sz ev room gs w' w2) : HtAp w0 U n Bd H sz ev room gs w w2 := by
  obtain ⟨U', h1, h2, h3⟩ := h
  exact ⟨U', h1, (Chg.of_below hb).then h2, fun k hk => (h3 k hk).imp_right fun h => by have := hb.size; omega⟩
set_option maxRecDepth 100000 in
/-- No file: no segment. -/
theorem htOpenAll_nil (h : SessS S w0 n Bd d w) (hn : n ≤ 1000) (hno : ∀ k, d.names k = none) (ev : Int) :
    Calls Tryz.prog 72 #[.pointer (some ⟨Bd, 0, none⟩), .int .i64 ev] w fun e w' => e = .returned (.tuple #[.slice none 0 0, .nilIface]) ∧ Below w.heap.size w w' := by
  have HL := hide (h.list hn)
  have HN : Hid (∀ l, Dk.Lists d.names l → l = []) := hide (fun l hl => List.eq_nil_iff_forall_not_mem.2 fun x hx => (hl.2 x).1 hx (hno x))
  clear h hno
  go_enter Tryz.func72, Tryz.ntmps72
  go_wp2_with (first
    | (go_at_call 119; refine HL.out.mono ?_; rintro e w1 ⟨v, l, rfl, hl, ho, hb⟩; obtain rfl := HN.out l hl; obtain ⟨A, c, rfl, -⟩ := ho.reads; have HB := hide hb; clear hl ho hb; simp only [List.length_nil])
    | fail)
  go_loopw [6, 17] (fun sv i wr => sv = .slice none 0 0 ∧ i = .int .i64 0 ∧ wr = w1) (fun _ _ _ => 0)
  case atStart => exact ⟨rfl, rfl, rfl⟩
  case round =>
    obtain ⟨rfl, rfl, rfl⟩ := hrel
    go_wp2_with fail
    go_returns
    exact ⟨rfl, HB.out⟩
set_option maxRecDepth 100000 in
set_option maxHeartbeats 1000000 in
/-- Open, where the disk has no file. -/
theorem htOpen_nil (h : SessS S w0 n Bd d w) (hn : n ≤ 1000) (hno : ∀ k, d.names k = none) (hsz : 1 ≤ sz ∧ sz ≤ 1048576) (hev : 1 ≤ ev ∧ ev ≤ 1048576) (hG : Ht.G d room 0 ev (fun _ => none) []) :
    Calls Tryz.prog 33 #[.pointer (some ⟨Bd, 0, none⟩), .agg #[.int .i64 sz, .int .i64 ev]] w fun e w' => ∃ H, e = .returned (.tuple #[.pointer (some ⟨H, 0, none⟩), .nilIface]) ∧ HtAp w0 S n Bd H sz ev room [] w w' := by
  have HH := hide h
  have HX := hide (fun (W : World) => ixNew_any ev W hev)
  have HO := hide (fun (W : World) (hw : Below w.heap.size w W) => htOpenAll_nil (h.grow hw) hn hno ev)
  have HGG := hide hG
  have hW1 : Below w.heap.size w (w.alloc (.cells #[.int .i64 sz, .int .i64 ev] 59)) := balloc (Below.refl _ _) _
  have HW1 := hide hW1
  have y0 : (w.alloc (.cells #[.int .i64 sz, .int .i64 ev] 59)).cell? ⟨w.heap.size, 0, none⟩ = some (.int .i64 sz) := by rw [World.cell?_alloc_mark]; rfl
  have y1 : (w.alloc (.cells #[.int .i64 sz, .int .i64 ev] 59)).cell? ⟨w.heap.size, 1, none⟩ = some (.int .i64 ev) := by rw [World.cell?_alloc_mark]; rfl
  have hBz : w.heap.size < (w.alloc (.cells #[.int .i64 sz, .int .i64 ev] 59)).heap.size := by simp
  have d1 : decide (sz < 1) = false := by simp; omega
  have d2 : decide (1048576 < sz) = false := by simp; omega
  clear h hno hG hW1 hsz hev
  go_enter Tryz.func33, Tryz.ntmps33
  go_upto_region 1 with fail
  generalize w.alloc (.cells #[.int .i64 sz, .int .i64 ev] 59) = W1 at *
  obtain ⟨Bx, hBx⟩ : ∃ Bx, Bx = w.heap.size := ⟨_, rfl⟩
  rw [← hBx] at y0 y1 hBz ⊢
  clear hBx
  go_upto_region 10 with (first
    | (go_at_call 71; refine (HX.out _).mono ?_; rintro e w2 ⟨rfl, -, hb2⟩; have HB2 := hide (HW1.out.trans (hb2.mono HW1.out.size)); have z0 := (hb2.cell (p := ⟨Bx, 0, none⟩) hBz).trans y0; have z1 := (hb2.cell (p := ⟨Bx, 1, none⟩) hBz).trans y1; have hBz2 := Nat.lt_of_lt_of_le hBz hb2.size; clear hb2)
    | (go_at_call 72; refine (HO.out _ HB2.out).mono ?_; rintro e w3 ⟨rfl, hb3⟩; have HB3 := hide (HB2.out.trans (hb3.mono HB2.out.size)); have t0 := (hb3.cell (p := ⟨Bx, 0, none⟩) hBz2).trans z0; have t1 := (hb3.cell (p := ⟨Bx, 1, none⟩) hBz2).trans z1; clear hb3)
    | fail)
  have HB4 : Hid (Below w3.heap.size w3 (w3.alloc (.cells #[.pointer (some ⟨Bd, 0, none⟩), .int .i64 sz, .int .i64 ev, .slice none 0 0, .slice none 0 0] 86))) := hide (balloc (Below.refl _ _) _)
  have h0 : (w3.alloc (.cells #[.pointer (some ⟨Bd, 0, none⟩), .int .i64 sz, .int .i64 ev, .slice none 0 0, .slice none 0 0] 86)).heap[w3.heap.size]? = some (.cells (htCells Bd sz ev (.slice none 0 0) (.slice none 0 0)) 86 (0, 0)) := heap_alloc_new _ _
  have HA := hide h0
  clear h0
  generalize w3.alloc (.cells #[.pointer (some ⟨Bd, 0, none⟩), .int .i64 sz, .int .i64 ev, .slice none 0 0, .slice none 0 0] 86) = w4 at *
  have HW4 := hide (HB3.out.trans (HB4.out.mono HB3.out.size))
  obtain ⟨H, hH⟩ : ∃ H, H = w3.heap.size := ⟨_, rfl⟩
  rw [← hH] at HA ⊢
  have HHL : Hid (w.heap.size ≤ H) := hide (by rw [hH]; exact HB3.out.size)
  clear hH t0 t1 z0 z1 y0 y1
  go_wp2_with fail
  go_loopw [50] (fun i wr => i = .int .i64 0 ∧ wr = w4) (fun _ _ => 0)
  case atStart => exact ⟨rfl, rfl⟩
  case round =>
    obtain ⟨rfl, rfl⟩ := hrel
    go_wp2_with fail
    go_returns
    refine ⟨H, rfl, htU S (fun k => k = H) [], ⟨d, S, fun k => k = H, .slice none 0 0, .slice none 0 0, [], fun _ => none, ⟨HH.out.grow HW4.out, HA.out, World.ownsRow_nil _ _ _ 1, World.ownsRow_nil _ _ _ 2, ⟨by simp [Value.ownBlock], by simp [Value.ownBlock], fun g e => by simp [Value.ownBlock] at e⟩, ⟨rfl, fun g e => by simp [Value.ownBlock] at e, fun g e => by simp [Value.ownBlock] at e⟩, fun k hk => ?_, fun k hk hS => ?_, fun q hq => (by cases hq), List.Pairwise.nil⟩, HGG.out, rfl, rfl⟩, Chg.of_below HW4.out, fun k hk => ?_⟩
    · subst hk
      have h1 := (Array.getElem?_eq_some_iff.1 HA.out).1
      have h2 := HHL.out
      have h3 := HH.out.below.size
      omega
    · subst hk
      have h1 := (HH.out.lo _ hS).2
      have h2 := HHL.out
      omega
    · rcases hk with hk | hk | ⟨q, hq, -⟩
      · exact .inl hk
      · subst hk
        exact .inr ⟨HHL.out, (Array.getElem?_eq_some_iff.1 HA.out).1⟩
      · cases hq
set_option maxRecDepth 100000 in
/-- Begin. -/
theorem htBegin_nil (h : HtA w0 U n Bd H sz ev room [] w) (p : Nat → Addr) (hs : SentsG w0 p) (hpt : PowTab w0) (hn : n ≤ 990) (base : Int) (h0 : 0 ≤ base ∧ base ≤ 1099511627776) (h1 : 1 ≤ ev ∧ ev ≤ 1048576) :
    Calls Tryz.prog 35 #[.pointer (some ⟨H, 0, none⟩), .int .i64 base] w fun e w' => e = .returned .nilIface ∧ HtAp w0 U (n + 3) Bd H sz ev room [(base, [])] w w' := by
  obtain ⟨d, S, C, vs, vb, qs, names, h2, g, hq, rfl⟩ := h
  obtain rfl : qs = [] := List.map_eq_nil_iff.1 hq
  obtain ⟨d3, hcr, hg3⟩ := g.create base h0 (fun q hq => by cases hq)
  have HC := hide (htCreate_good h2 p hs hpt hn (by simp) base h0 h1 d3 hcr)
  have HG3 := hide hg3
  obtain ⟨A, c, A', c', rfl, rfl, -, -, -, -, -, c3, -⟩ := h2.cells
  rw [List.length_nil] at c3
  clear h2 g hq hcr hg3 hs hpt
  go_enter Tryz.func35, Tryz.ntmps35
  go_wp2_with (first
    | (go_at_call 76; refine HC.out.mono ?_; rintro e w4 ⟨rfl, x, X, T, S4, C4, vs4, hx, h4, hc4, hu4⟩; have H4 := hide h4; have HC4 := hide hc4; have HU4 := hide hu4; clear h4 hc4 hu4 hx)
    | fail)
  go_ret
  exact ⟨rfl, _, ⟨d3 x, S4, C4, vs4, _, _, _, H4.out, HG3.out x (fun q hq => by cases hq) X T, rfl, rfl⟩, HC4.out, HU4.out⟩
end
end Go.Proofs.YtcmgppacipdnaaaGreatDoor

namespace Go.Proofs.YtcmgppacipdnaaaGreatDoor
open Go.RowKit Go.Maps

namespace Ht
def lastOff (o : Int) (bs : List Rc.Bat) : Int := match bs.getLast? with
  | none => o
  | some b => b.base + b.recs.length
def lastEp (bs : List Rc.Bat) : Int := match bs.getLast? with
  | none => 0
  | some b => b.epoch
theorem lastOff_snoc (o : Int) (bs : List Rc.Bat) (b : Rc.Bat) : lastOff o (bs ++ [b]) = b.base + b.recs.length := by simp [lastOff]
theorem lastEp_snoc (bs : List Rc.Bat) (b : Rc.Bat) : lastEp (bs ++ [b]) = b.epoch := by simp [lastEp]
theorem bats_add {sz : Int} {gs : List Gr} {b : Rc.Bat} (h : gs ≠ []) : bats (add sz gs b) = bats gs ++ [pr b] := by
  rw [bats_all, all_add h, bats_all, List.map_append]; rfl
theorem used_add {sz : Int} {gs : List Gr} {b : Rc.Bat} (h : gs ≠ []) : used (add sz gs b) = used gs + (Rc.bytes b).length := by
  unfold used; rw [all_add h, size_snoc]; push_cast; rfl
end Ht
section
variable {d : Dk.St} {s : Sg.St} {room used base every : Int} {names : Dk.Dir} {x : Nat} {bs : List Rc.Bat}
theorem Mz.lastOff (h : Mz d s room used names base every x bs) : (Sg.last s.edges).off = Ht.lastOff base bs ∧ (Sg.last s.edges).ep = Ht.lastEp bs := by
  rw [h.edges]
  rcases List.eq_nil_or_concat bs with rfl | ⟨bs, b, rfl⟩
  · exact ⟨rfl, rfl⟩
  · rw [List.concat_eq_append, Ht.lastOff_snoc, Ht.lastEp_snoc, Sg.adds_append]
    rw [show Sg.adds (Sg.adds (Sg.begin (Nm.seg base) base every) bs) [b] = (Sg.adds (Sg.begin (Nm.seg base) base every) bs).add b (Rc.bytes b).length from rfl, Sg.add_last]
    exact ⟨rfl, rfl⟩
theorem Mz.base_lt (h : Mz d s room used names base every x bs) (hne : bs ≠ []) : base < (Sg.last s.edges).off := by
  obtain ⟨bs0, b, rfl⟩ : ∃ bs0 b, bs = bs0 ++ [b] := ⟨bs.dropLast, bs.getLast hne, (List.dropLast_concat_getLast hne).symm⟩
  have hc := h.chain
  have hg := h.good b (by simp)
  have hb := Sg.ed_base (Sg.begin (Nm.seg base) base every) rfl (bs0 ++ [b]) hc bs0.length (by simp)
  have e : (bs0 ++ [b])[bs0.length]'(by simp) = b := by simp
  rw [e] at hb
  have hm := Sg.off_mono (Sg.begin (Nm.seg base) base every) rfl (bs0 ++ [b]) hc 0 bs0.length (Nat.zero_le _) (by rw [Sg.adds_len]; simp [Sg.begin]; omega)
  have h0 : (Sg.ed (Sg.adds (Sg.begin (Nm.seg base) base every) (bs0 ++ [b])).edges 0).off = base := by
    rw [Sg.adds_ed _ _ 0 (by simp [Sg.begin])]; rfl
  rw [h.lastOff.1, Ht.lastOff_snoc]
  have := hg.n0
  rw [h0, ← hb] at hm
  omega
end
section
variable {w0 w : World} {U : Nat → Prop} {n Bd H : Nat} {sz ev room : Int} {g0 gs : List Ht.Gr} {o : Int} {bs : List Rc.Bat}
/-- Its segments, where there is one at least. -/
theorem HtA.open_ (h : HtA w0 U n Bd H sz ev room (g0 ++ [(o, bs)]) w) : ∃ d S C vs vb qs0 q names, HtL w0 S n Bd d H C sz ev vs vb (qs0 ++ [q]) (Ht.bats (g0 ++ [(o, bs)])) w ∧ Ht.G d room (Ht.used (g0 ++ [(o, bs)])) ev names (qs0 ++ [q]) ∧ qs0.map (fun q => (q.base, q.bs)) = g0 ∧ q.base = o ∧ q.bs = bs ∧ U = htU S C (qs0 ++ [q]) := by
  obtain ⟨d, S, C, vs, vb, qs, names, h1, h2, h3, h4⟩ := h
  have hne : qs ≠ [] := fun e => by subst e; simp at h3
  obtain ⟨qs0, q, rfl⟩ : ∃ qs0 q, qs = qs0 ++ [q] := ⟨qs.dropLast, qs.getLast hne, (List.dropLast_concat_getLast hne).symm⟩
  rw [List.map_append, List.map_singleton] at h3
  obtain ⟨e1, e2⟩ := List.append_inj' h3 rfl
  injection e2 with e2 _
  injection e2 with e2 e3
  exact ⟨d, S, C, vs, vb, qs0, q, names, h1, h2, e1, e2, e3, h4⟩
set_option maxRecDepth 100000 in
/-- Append, where all goes well. -/
theorem htAppend_A (h : HtA w0 U n Bd H sz ev room (g0 ++ [(o, bs)]) w) (p : Nat → Addr) (hs : SentsG w0 p) (ht : Tabs w0) (hpt : PowTab w0) (hn : n ≤ 970) (hlen : g0.length ≤ 9000) (hbl : (Ht.all (g0 ++ [(o, bs)])).length ≤ 9000) (hus : Ht.used (g0 ++ [(o, bs)]) ≤ 900000) (h1 : 1 ≤ ev ∧ ev ≤ 1048576)
    (b : Rc.Bat) (A : Option Addr) (cap m : Nat) (hb : ∀ W, Chg U w W → IsBat W A cap b) (hm : b.recs.length = m) (hg : Rc.Good b) (hlb : (Rc.bytes b).length ≤ 1000) (hr : ((Rc.bytes b).length : Int) ≤ room - Ht.used (g0 ++ [(o, bs)])) (hoff : b.base = Ht.lastOff o bs) (hep : ∀ c, (Ht.all (g0 ++ [(o, bs)])).getLast? = some c → c.epoch ≤ b.epoch) :
    Calls Tryz.prog 28 #[.pointer (some ⟨H, 0, none⟩), batV b.base b.epoch A m cap] w fun e w' => e = .returned .nilIface ∧ HtAp w0 U (n + 5) Bd H sz ev room (Ht.add sz (g0 ++ [(o, bs)]) b) w w' := by
  have hne : g0 ++ [(o, bs)] ≠ [] := by simp
  obtain ⟨d, S, C, vs, vb, qs0, q, names, h2, g, e1, e2, e3, rfl⟩ := h.open_
  have hml := g.last
  rw [e2, e3] at hml
  have hall : Ht.all (g0 ++ [(o, bs)]) = Ht.all g0 ++ bs := by simp [Ht.all]
  have hqb : bs.length ≤ 9000 := by rw [hall, List.length_append] at hbl; omega
  have hqs : (bs.flatMap Rc.bytes).length ≤ 900000 := by
    unfold Ht.used Ht.size at hus
    rw [hall, List.flatMap_append, List.length_append] at hus
    omega
  have hlo := hml.lastOff
  have hep2 : (Sg.last q.s.edges).ep ≤ b.epoch := by
    rw [hlo.2]
    unfold Ht.lastEp
    cases hl : bs.getLast? with
    | none => exact hg.ep0
    | some c =>
      refine hep c ?_
      rw [hall, List.getLast?_append, hl]; rfl
  have hc := htAppend_good h2 p hs ht hpt hn (by rw [← e1, List.length_map] at hlen; exact hlen) (by rw [Ht.bats_all, List.length_map]; exact hbl) g h1 b A cap m hb hm hg hlb hr (by rw [hlo.1]; exact hoff) hep2 (fun x e bs0 eq => by
    rw [Ht.bats_all] at eq
    rcases List.eq_nil_or_concat (Ht.all (g0 ++ [(o, bs)])) with h0 | ⟨l, c, h0⟩
    · rw [h0] at eq; simp at eq
    · rw [List.concat_eq_append] at h0
      have h3 := hep c (by rw [h0]; simp)
      rw [h0, List.map_append, List.map_singleton] at eq
      obtain ⟨-, e4⟩ := List.append_inj' eq rfl
      injection e4 with e4 _
      unfold Ht.pr at e4
      injection e4 with _ e4
      omega) (by rw [hml.len]; omega) (by rw [hml.pos]; omega) (fun hbg a ha => by
    have hne2 : bs ≠ [] := fun e => by
      rw [e3, e] at hbg
      simp [Ht.big, Ht.size] at hbg
    have hlt := hml.base_lt hne2
    rcases List.mem_append.1 ha with ha | ha
    · have := (List.pairwise_append.1 g.rise).2.2 a ha q (by simp)
      omega
    · rw [List.mem_singleton.1 ha]; omega)
  refine hc.mono fun e w' ⟨he, d', names', qs1, q1, S', C', vs', vb', k1, k2, k3, k4, k5⟩ => ⟨he, _, ⟨d', S', C', vs', vb', _, names', ?_, ?_, ?_, rfl⟩, k4, k5⟩
  · rw [Ht.bats_add hne]; exact k1
  · rw [Ht.used_add hne]; exact k2
  · rw [k3, List.map_append, List.map_singleton, e1, e2, e3]
set_option maxRecDepth 100000 in
/-- End. -/
theorem htEnd_A (h : HtA w0 U n Bd H sz ev room (g0 ++ [(o, bs)]) w) :
    Calls Tryz.prog 21 #[.pointer (some ⟨H, 0, none⟩)] w fun e w' => e = .returned (.int .i64 (Ht.lastOff o bs)) ∧ Below w.heap.size w w' := by
  obtain ⟨d, S, C, vs, vb, qs0, q, names, h2, g, e1, e2, e3, rfl⟩ := h.open_
  have hml := g.last
  rw [e2, e3] at hml
  have hc := htEnd_any h2
  rw [hml.lastOff.1] at hc
  exact hc
end
end Go.Proofs.YtcmgppacipdnaaaGreatDoor

namespace Go.Proofs.YtcmgppacipdnaaaGreatDoor
open Go.RowKit Go.Maps

namespace Ht
theorem snoc_ind {α : Type} {P : List α → Prop} (nil : P []) (snoc : ∀ l a, P l → P (l ++ [a])) (l : List α) : P l := by
  have key : ∀ l : List α, P l.reverse := fun l => by
    induction l with
    | nil => exact nil
    | cons a l ih => rw [List.reverse_cons]; exact snoc _ _ ih
  have := key l.reverse
  rwa [List.reverse_reverse] at this
/-- The groups of these batches. -/
def grp (sz base : Int) (bs : List Rc.Bat) : List Gr := bs.foldl (add sz) [(base, [])]
theorem grp_snoc (sz base : Int) (bs : List Rc.Bat) (b : Rc.Bat) : grp sz base (bs ++ [b]) = add sz (grp sz base bs) b := by simp [grp]
theorem grp_all (sz base : Int) (bs : List Rc.Bat) : all (grp sz base bs) = bs ∧ grp sz base bs ≠ [] := by
  induction bs using snoc_ind with
  | nil => exact ⟨rfl, by simp [grp]⟩
  | snoc bs b ih =>
    rw [grp_snoc]
    exact ⟨by rw [all_add ih.2, ih.1], add_ne⟩
theorem grp_used (sz base : Int) (bs : List Rc.Bat) : used (grp sz base bs) = (size bs : Int) := by unfold used; rw [(grp_all sz base bs).1]
theorem grp_len (sz base : Int) (bs : List Rc.Bat) : (grp sz base bs).length ≤ bs.length + 1 := by
  induction bs using snoc_ind with
  | nil => simp [grp]
  | snoc bs b ih =>
    rw [grp_snoc, List.length_append, List.length_singleton]
    unfold add
    split
    · simp; omega
    · simp; omega
/-- The last group. -/
theorem grp_last (sz base : Int) (bs : List Rc.Bat) : ∃ g0 o cs, grp sz base bs = g0 ++ [(o, cs)] ∧ lastOff o cs = lastOff base bs ∧ (cs = [] → bs = []) := by
  induction bs using snoc_ind with
  | nil => exact ⟨[], base, [], rfl, rfl, fun _ => rfl⟩
  | snoc bs b ih =>
    obtain ⟨g0, o, cs, e, -, -⟩ := ih
    rw [grp_snoc, e]
    cases hb : big sz cs b
    · exact ⟨g0, o, cs ++ [b], add_small hb, by rw [lastOff_snoc, lastOff_snoc], fun h => by simp at h⟩
    · refine ⟨g0 ++ [(o, cs)], b.base, [b], add_big hb, ?_, fun h => by simp at h⟩
      have := lastOff_snoc b.base [] b
      rw [List.nil_append] at this
      rw [this, lastOff_snoc]
theorem grp_first (sz base : Int) (bs : List Rc.Bat) : ∃ cs gs, grp sz base bs = (base, cs) :: gs := by
  induction bs using snoc_ind with
  | nil => exact ⟨[], [], rfl⟩
  | snoc bs b ih =>
    obtain ⟨cs, gs, e⟩ := ih
    rw [grp_snoc, e]
    unfold add
    split
    · exact ⟨cs, gs ++ [(b.base, [b])], rfl⟩
    · cases gs with
      | nil => exact ⟨cs ++ [b], [], rfl⟩
      | cons g gs => exact ⟨cs, _, rfl⟩
end Ht
theorem chain_last {s0 : Sg.St} {o : Int} (h0 : (Sg.last s0.edges).off = o) (bs : List Rc.Bat) : (Sg.last (Sg.adds s0 bs).edges).off = Ht.lastOff o bs := by
  rcases List.eq_nil_or_concat bs with rfl | ⟨bs, b, rfl⟩
  · exact h0
  · rw [List.concat_eq_append, Ht.lastOff_snoc, Sg.adds_append]
    rw [show Sg.adds (Sg.adds s0 bs) [b] = (Sg.adds s0 bs).add b (Rc.bytes b).length from rfl, Sg.add_last]
    rfl
theorem HtA.cellW {w0 w W : World} {U : Nat → Prop} {n Bd H : Nat} {sz ev room : Int} {gs : List Ht.Gr} (h : HtA w0 U n Bd H sz ev room gs w) (hc : Chg U w W) : Below w0.heap.size w0 W :=
  h.below.trans (hc.below h.below.size fun k hk => (h.uLo k hk).1)
/-- The batch k of a chain, appended to the log of those ahead of it. -/
theorem htAppend_row {w0 w : World} {U : Nat → Prop} {n Bd H : Nat} {sz base : Int} {cs : List Rc.Bat} {s0 : Sg.St} (k : Nat) (hk : k < cs.length) (h : HtA w0 U n Bd H sz 60 1048576 (Ht.grp sz base (cs.take k)) w) (p : Nat → Addr) (hs : SentsG w0 p) (ht : Tabs w0) (hpt : PowTab w0) (hn : n ≤ 970) (hl : cs.length ≤ 100) (hso : (Sg.last s0.edges).off = base) (hch : Sg.Chain s0 cs) (hg : ∀ b ∈ cs, Rc.Good b) (hsm : ∀ b ∈ cs, (Rc.bytes b).length ≤ 300) (A : Option Addr) (cap : Nat) (hib : IsBat w0 A cap cs[k]) :
    Calls Tryz.prog 28 #[.pointer (some ⟨H, 0, none⟩), batV cs[k].base cs[k].epoch A cs[k].recs.length cap] w fun e w' => e = .returned .nilIface ∧ HtAp w0 U (n + 5) Bd H sz 60 1048576 (Ht.grp sz base (cs.take (k + 1))) w w' := by
  have hkm : cs[k] ∈ cs := List.getElem_mem hk
  have hfol := chain_next hch k hk
  unfold Sg.follows at hfol
  rw [Bool.and_eq_true, decide_eq_true_eq, decide_eq_true_eq, chain_last hso] at hfol
  have hall := Ht.grp_all sz base (cs.take k)
  have hus := Ht.grp_used sz base (cs.take k)
  have hsz := flat_len_le Rc.bytes 300 (cs.take k) (fun b hb => hsm b (List.mem_of_mem_take hb))
  rw [List.length_take] at hsz
  have hsz2 : Ht.size (cs.take k) ≤ 30000 := by
    unfold Ht.size
    have : 300 * min k cs.length ≤ 300 * 100 := Nat.mul_le_mul_left _ (by omega)
    omega
  have hb3 := hsm _ hkm
  have hgl := Ht.grp_len sz base (cs.take k)
  rw [List.length_take] at hgl
  obtain ⟨g0, o, ds, e, hlo, -⟩ := Ht.grp_last sz base (cs.take k)
  rw [List.take_succ_eq_append_getElem hk, Ht.grp_snoc]
  have hcW := fun (W : World) (hc : Chg U w W) => h.cellW hc
  rw [e] at h hall hus hgl ⊢
  rw [List.length_append, List.length_singleton] at hgl
  refine htAppend_A h p hs ht hpt hn (by omega) (by rw [hall.1, List.length_take]; omega) (by rw [hus]; omega) ⟨by omega, by omega⟩ cs[k] A cap _ (fun W hc => hib.below (hcW W hc) (Nat.le_refl _)) rfl (hg _ hkm) (by omega) (by rw [hus]; omega) (by rw [hlo]; exact hfol.1) (fun c hc => ?_)
  rw [hall.1] at hc
  obtain ⟨ds2, hd⟩ : ∃ ds2, cs.take k = ds2 ++ [c] := by
    rcases List.eq_nil_or_concat (cs.take k) with h0 | ⟨l, x, h0⟩
    · rw [h0] at hc; simp at hc
    · rw [List.concat_eq_append] at h0
      rw [h0] at hc
      simp at hc
      exact ⟨l, by rw [h0, hc]⟩
  have h2 := hfol.2
  rw [hd, Sg.adds_append] at h2
  rw [show Sg.adds (Sg.adds s0 ds2) [c] = (Sg.adds s0 ds2).add c (Rc.bytes c).length from rfl, Sg.add_last] at h2
  exact h2
set_option maxRecDepth 100000 in
set_option maxHeartbeats 1000000 in
/-- The statements' made. -/
theorem htMade_any (sz base : Int) (A : Option Addr) (cap n : Nat) (cs : List Rc.Bat) (w : World) (p : Nat → Addr) (hs : SentsG w p) (ht : Tabs w) (hpt : PowTab w) (hn : cs.length = n) (hn2 : n ≤ 40) (hbt : Bats w A cs) (hg : ∀ b ∈ cs, Rc.Good b) (hsm : ∀ b ∈ cs, (Rc.bytes b).length ≤ 300) (hsz : 1 ≤ sz ∧ sz ≤ 1048576) (h0 : 0 ≤ base ∧ base ≤ 1099511627776) (s0 : Sg.St) (hso : (Sg.last s0.edges).off = base) (hch : Sg.Chain s0 cs) :
    Calls Tryz.prog 16 #[.int .i64 sz, .slice A n cap, .int .i64 base] w fun e w' => ∃ Bd H U, e = .returned (.tuple #[.pointer (some ⟨Bd, 0, none⟩), .pointer (some ⟨H, 0, none⟩)]) ∧ HtA w U (3 + 5 * n) Bd H sz 60 1048576 (Ht.grp sz base cs) w' := by
  have HN := hide (new_sessS 1048576 w w (Below.refl _ _) (by omega) (by omega))
  have HOP := hide (fun (S : Nat → Prop) (Bd : Nat) (W : World) (h : SessS S w 0 Bd (Dk.St.new 1048576) W) => htOpen_nil (sz := sz) (ev := 60) (room := 1048576) h (by omega) (fun _ => rfl) hsz (by omega) (Ht.G.new 1048576 60))
  have HBG := hide (fun (U : Nat → Prop) (Bd H : Nat) (W : World) (h : HtA w U 0 Bd H sz 60 1048576 [] W) => htBegin_nil h p hs hpt (by omega) base h0 (by omega))
  have HAP := hide (fun (k : Nat) (hk : k < cs.length) (U : Nat → Prop) (Bd H : Nat) (W : World) (h : HtA w U (3 + 5 * k) Bd H sz 60 1048576 (Ht.grp sz base (cs.take k)) W) (Ax : Option Addr) (cx : Nat) (hib : IsBat w Ax cx cs[k]) => htAppend_row k hk h p hs ht hpt (by omega) (by omega) hso hch hg hsm Ax cx hib)
  have HBT := hide hbt
  have HLN := hide hn
  clear hs ht hpt hbt hg hsm hso hch hn hsz h0
  unfold batV at HAP
  go_enter Tryz.func16, Tryz.ntmps16
  go_wp2_with (first
    | (go_at_call 48; refine HN.out.mono ?_; rintro e w1 ⟨Bd, rfl, h1, -⟩; have H1 := hide h1; clear h1)
    | (go_at_call 33; refine (HOP.out _ _ _ H1.out).mono ?_; rintro e w2 ⟨H, rfl, U2, h2, -, -⟩; have H2 := hide h2; clear h2 H1)
    | (go_at_call 35; refine (HBG.out _ _ _ _ H2.out).mono ?_; rintro e w3 ⟨rfl, U3, h3, -, -⟩; have H3 := hide h3; clear h3 H2)
    | fail)
  go_loopw [12] (fun i wr => ∃ (k : Nat) (U : Nat → Prop), k ≤ n ∧ i = .int .i64 k ∧ HtA w U (3 + 5 * k) Bd H sz 60 1048576 (Ht.grp sz base (cs.take k)) wr) (fun i _ => n - (intOf i).toNat)
  case atStart => exact ⟨0, U3, Nat.zero_le _, rfl, H3.out⟩
  case round =>
    obtain ⟨k, U4, hk, rfl, h4⟩ := hrel
    have H4 := hide h4
    clear h4 H3
    by_cases hlt : k < n
    · have hkl : k < cs.length := by rw [HLN.out]; exact hlt
      obtain ⟨b0, o0, hA, hb0, Ax, cx, k0, k1, k2, hib⟩ := HBT.out.at_ k hkl
      subst hA
      have HA := hide (HAP.out k hkl U4 Bd H wr H4.out Ax cx hib)
      have hbl := H4.out.below
      replace k0 := (hbl.cell (p := ⟨b0, o0 + k * 3, none⟩) hb0).trans k0
      replace k1 := (hbl.cell (p := ⟨b0, o0 + k * 3 + 1, none⟩) hb0).trans k1
      replace k2 := (hbl.cell (p := ⟨b0, o0 + k * 3 + 2, none⟩) hb0).trans k2
      clear hib hbl HAP
      generalize cs[k].base = ba at *
      generalize cs[k].epoch = ep at *
      generalize cs[k].recs.length = m at *
      go_wp2_with (first
        | (go_at_call 28; refine HA.out.mono ?_; rintro e w5 ⟨rfl, U5, h5, -, -⟩; have H5 := hide h5; clear h5)
        | fail)
      exact ⟨⟨k + 1, U5, by omega, by simp, H5.out.mono (by omega)⟩, by simp [intOf]; omega⟩
    · obtain rfl : k = n := by omega
      go_wp2_with fail
      go_returns
      refine ⟨Bd, H, U4, rfl, ?_⟩
      have := H4.out
      rw [List.take_of_length_le (by have := HLN.out; omega)] at this
      exact this
end Go.Proofs.YtcmgppacipdnaaaGreatDoor
