/-
  A log's Read: how far it goes by its limit; where no batch has the offset.
  The edges of a segment made of batches: their offsets and places rise.
  Where an offset of a log lies, plainly: its batch among all, and in its segment.
  What a Read of a log is told, plainly: batches one behind the other, the first one from the offset on.
  What a Read of a log is told: the batches of all, from the one that has the offset on.
-/
import Derived.Test.YtcmgppacipdnaaaGreatDoorQRfV
import Derived.Test.YtcmgppacipdnaaaGreatDoorQSgO
namespace Go.Proofs.YtcmgppacipdnaaaGreatDoor
open Go.RowKit Go.Maps

/-- Of a test that holds from some edge on: of the edges that are not counted it holds. -/
theorem Sg.cnt_ge2 (l : List Sg.Edge) (P : Sg.Edge → Bool) (hm : ∀ i j, i ≤ j → j < l.length → P (Sg.ed l i) = true → P (Sg.ed l j) = true) (i : Nat) (hi : Sg.cnt l P ≤ i) (hil : i < l.length) : P (Sg.ed l i) = true := by
  obtain ⟨k, hk, h1, h2⟩ := Sg.exists_cut (fun i => P (Sg.ed l i)) l.length hm
  have e := Sg.cnt_eq l P k hk h1 h2
  exact h2 i (by omega) hil
section
variable {d : Dk.St} {s s0 : Sg.St} {room used : Int} {names : Dk.Dir} {x : Nat} {bs : List Rc.Bat}
/-- One more would be too much. -/
theorem Md.more (h : Md d s room used names s0 x bs) (most : Int) (k n fin : Nat) (hk : k < bs.length) (hfin : (fin : Int) = max ((k : Int) + 1) (((Sg.cnt s.edges (fun e => decide (most < e.pos - ((Sg.ed s.edges (k + 1)).pos - n)))) : Int) - 1)) (hfl : fin < bs.length) :
    most < (n : Int) + ((((bs.drop (k + 1)).take (fin + 1 - (k + 1))).flatMap Rc.bytes).length : Nat) := by
  have hlen : s.edges.length = bs.length + 1 := by
    have e := h.seg
    subst e
    rw [Sg.adds_len, h.one]; omega
  have hge := Sg.cnt_ge2 s.edges (fun e => decide (most < e.pos - ((Sg.ed s.edges (k + 1)).pos - n))) (fun i j hij hj hp => by
    have hm : (Sg.ed s.edges i).pos ≤ (Sg.ed s.edges j).pos := by
      have e := h.seg
      subst e
      exact Sg.pos_mono s0 h.one h.zero bs i j hij hj
    have hp' := of_decide_eq_true hp
    exact decide_eq_true (by omega)) (fin + 1) (by omega) (by omega)
  have hlt := of_decide_eq_true hge
  have e := h.seg
  subst e
  rw [Sg.ed_pos s0 h.one h.zero bs (fin + 1) (by omega), Sg.ed_pos s0 h.one h.zero bs (k + 1) (by omega)] at hlt
  have hf := flat_mid bs (k + 1) (fin + 1) (by omega)
  omega
end
theorem htRead_M {w0 w : World} {U : Nat → Prop} {n Bd H : Nat} {sz ev room : Int} {gs : List Ht.Gr} (h : HtA w0 U n Bd H sz ev room gs w) (hc : Ht.Cont gs) (p : Nat → Addr) (hs : SentsG w0 p) (ht : Tabs w0) (hn : n ≤ 1000) (hl : gs.length ≤ 10000) (hus : Ht.used gs ≤ 900000) (k : Nat) (hk : k < gs.length) (j : Nat) (hj : j < gs[k].2.length) (r : Nat) (hr : r < gs[k].2[j].recs.length) (o most : Int) (ho : o = gs[k].2[j].base + r) :
    ∃ fin : Nat, j + 1 ≤ fin ∧ fin ≤ gs[k].2.length ∧ (fin = j + 1 ∨ ((Rc.bytes (cutB gs[k].2[j] o r)).length : Int) + ((((gs[k].2.drop (j + 1)).take (fin - (j + 1))).flatMap Rc.bytes).length : Nat) ≤ most) ∧ (fin = gs[k].2.length ∨ most < ((Rc.bytes (cutB gs[k].2[j] o r)).length : Int) + ((((gs[k].2.drop (j + 1)).take (fin + 1 - (j + 1))).flatMap Rc.bytes).length : Nat)) ∧
    Calls Tryz.prog 24 #[.pointer (some ⟨H, 0, none⟩), .int .i64 o, .int .i64 most] w fun e w' => ∃ v, e = .returned (.tuple #[v, .nilIface]) ∧ (∃ ps, BRow w' w.heap.size v ps ∧ ps.map (·.b) = cutB gs[k].2[j] o r :: (gs[k].2.drop (j + 1)).take (fin - (j + 1))) ∧ Below w.heap.size w w' := by
  obtain ⟨d, S, C, vs, vb, qs, names, h2, g, h3, rfl⟩ := h
  subst h3
  have hkq : k < qs.length := by rw [List.length_map] at hk; exact hk
  have hgk : (qs.map fun q => (q.base, q.bs))[k] = (qs[k].base, qs[k].bs) := by simp
  have hgd : ∀ i (hi : i < qs.length), qs.getD i default = qs[i] := fun i hi => by simp [List.getD, hi]
  have hml : ∀ i (hi : i < qs.length), Mz d qs[i].s room (Ht.used (qs.map fun q => (q.base, q.bs))) names qs[i].base ev qs[i].x qs[i].bs := fun i hi => g.mz _ (List.getElem_mem hi)
  have hend : ∀ i (hi : i < qs.length), hqEnd qs i = Ht.lastOff qs[i].base qs[i].bs := fun i hi => by unfold hqEnd; rw [hgd i hi]; exact (hml i hi).lastOff.1
  have hone : ∀ i (hi : i < qs.length), qs[i].base ≤ Ht.lastOff qs[i].base qs[i].bs := fun i hi => hc.one (qs[i].base, qs[i].bs) (List.mem_map.2 ⟨_, List.getElem_mem hi, rfl⟩)
  have htwo : ∀ a b (hab : a < b) (hb : b < qs.length), Ht.lastOff (qs[a]'(by omega)).base (qs[a]'(by omega)).bs ≤ qs[b].base := fun a b hab hb => by
    have := List.pairwise_iff_getElem.1 hc.two a b (by rw [List.length_map]; omega) (by rw [List.length_map]; omega) hab
    simpa using this
  simp only [hgk] at hj hr ho ⊢
  have hbd := (hml k hkq).bounds j hj
  have hqb : (qs[k].bs.flatMap Rc.bytes).length ≤ 1000000 := by
    have h4 : ∀ (l : List Ht.Gr) (x : Ht.Gr), x ∈ l → (x.2.flatMap Rc.bytes).length ≤ Ht.size (Ht.all l) := fun l x hx => by
      induction l with
      | nil => cases hx
      | cons y l ih =>
        have e : Ht.all (y :: l) = y.2 ++ Ht.all l := rfl
        rw [e]
        unfold Ht.size at ih ⊢
        rw [List.flatMap_append, List.length_append]
        rcases List.mem_cons.1 hx with rfl | hx
        · omega
        · have := ih hx; omega
    have h5 := h4 (qs.map fun q => (q.base, q.bs)) (qs[k].base, qs[k].bs) (List.mem_map.2 ⟨_, List.getElem_mem hkq, rfl⟩)
    unfold Ht.used at hus
    simp only at h5
    omega
  obtain ⟨z, hz⟩ := hml k hkq
  obtain ⟨f, fin, hf, hfin, hfl, hrd⟩ := hz.read hqb o most j r hj ho hr
  refine ⟨fin, by omega, hfl, hz.within most j _ fin hj (by rw [hf] at hfin; exact hfin) hfl, (by
    by_cases he : fin = qs[k].bs.length
    · exact .inl he
    · exact .inr (hz.more most j _ fin hj (by rw [hf] at hfin; exact hfin) (by omega))), ?_⟩
  have hgood := hz.good qs[k].bs[j] (List.getElem_mem hj)
  have hob : -9223372036854775808 ≤ o ∧ o ≤ 9223372036854775807 := by
    have := hgood.base0; have := hgood.base1; omega
  refine htRead_gen h2 (by rw [List.length_map] at hl; exact hl) o most (fun a b hab hb => ?_) k hkq (fun i hi => ?_) ?_ (fun v W => ∃ ps, BRow W w.heap.size v ps ∧ ps.map (·.b) = cutB qs[k].bs[j] o r :: (qs[k].bs.drop (j + 1)).take (fin - (j + 1))) (fun v W W' ⟨ps, h5, h6⟩ hb => ⟨ps, h5.below hb, h6⟩) .nilIface (fun W hW => ?_)
  · rw [hend a (by omega), hend b hb]
    rcases Nat.lt_or_ge a b with hlt | hge
    · have := htwo a b hlt hb
      have := hone b hb
      omega
    · obtain rfl : a = b := by omega
      exact Int.le_refl _
  · rw [hend i (by omega)]
    have := htwo i k hi hkq
    omega
  · rw [hend k hkq]; omega
  · rw [hgd k hkq]
    refine (sgRead_good w0 W S qs[k].T n Bd qs[k].X d qs[k].s p ((h2.grow hW).seg _ (List.getElem_mem hkq)) hs ht hn o most hob j r f fin _ _ hrd).mono ?_
    rintro e w' ⟨v, ps, he, hb, hq, hw⟩
    exact ⟨v, he, ⟨ps, hb.mono hW.size, hq⟩, hw⟩
/-- Ahead of the first segment. -/
theorem htRead_lo {w0 w : World} {U : Nat → Prop} {n Bd H : Nat} {sz ev room : Int} {gs : List Ht.Gr} (h : HtA w0 U n Bd H sz ev room gs w) (hc : Ht.Cont gs) (p : Nat → Addr) (hs : SentsG w0 p) (hl : gs.length ≤ 10000) (h0 : 0 < gs.length) (o most : Int) (ho : o < gs[0].1) :
    Calls Tryz.prog 24 #[.pointer (some ⟨H, 0, none⟩), .int .i64 o, .int .i64 most] w fun e w' => e = .returned (.tuple #[.slice none 0 0, errV (p 14)]) ∧ Below w.heap.size w w' := by
  obtain ⟨d, S, C, vs, vb, qs, names, h2, g, h3, rfl⟩ := h
  subst h3
  have hkq : 0 < qs.length := by rw [List.length_map] at h0; exact h0
  have hgk : (qs.map fun q => (q.base, q.bs))[0] = (qs[0].base, qs[0].bs) := by simp
  have hgd : ∀ i (hi : i < qs.length), qs.getD i default = qs[i] := fun i hi => by simp [List.getD, hi]
  have hml : ∀ i (hi : i < qs.length), Mz d qs[i].s room (Ht.used (qs.map fun q => (q.base, q.bs))) names qs[i].base ev qs[i].x qs[i].bs := fun i hi => g.mz _ (List.getElem_mem hi)
  have hend : ∀ i (hi : i < qs.length), hqEnd qs i = Ht.lastOff qs[i].base qs[i].bs := fun i hi => by unfold hqEnd; rw [hgd i hi]; exact (hml i hi).lastOff.1
  have hone : ∀ i (hi : i < qs.length), qs[i].base ≤ Ht.lastOff qs[i].base qs[i].bs := fun i hi => hc.one (qs[i].base, qs[i].bs) (List.mem_map.2 ⟨_, List.getElem_mem hi, rfl⟩)
  have htwo : ∀ a b (hab : a < b) (hb : b < qs.length), Ht.lastOff (qs[a]'(by omega)).base (qs[a]'(by omega)).bs ≤ qs[b].base := fun a b hab hb => by
    have := List.pairwise_iff_getElem.1 hc.two a b (by rw [List.length_map]; omega) (by rw [List.length_map]; omega) hab
    simpa using this
  simp only [hgk] at ho
  obtain ⟨z, hz⟩ := hml 0 hkq
  have hoff : (Sg.ed qs[0].s.edges 0).off = qs[0].base := by
    rw [hz.seg, Sg.ed_last _ hz.one _ 0 (Nat.zero_le _)]
    rfl
  refine (htRead_gen h2 (by rw [List.length_map] at hl; exact hl) o most (fun a b hab hb => ?_) 0 hkq (fun i hi => absurd hi (Nat.not_lt_zero _)) ?_ (fun v _ => v = .slice none 0 0) (fun v W W' h5 _ => h5) (errV (p 14)) (fun W hW => ?_)).mono ?_
  · rw [hend a (by omega), hend b hb]
    rcases Nat.lt_or_ge a b with hlt | hge
    · have := htwo a b hlt hb
      have := hone b hb
      omega
    · obtain rfl : a = b := by omega
      exact Int.le_refl _
  · rw [hend 0 hkq]; have := hone 0 hkq; omega
  · rw [hgd 0 hkq]
    exact (sgRead_out w0 W S qs[0].T n Bd qs[0].X d qs[0].s p ((h2.grow hW).seg _ (List.getElem_mem hkq)) hs o most (.inl (by rw [hoff]; exact ho))).mono fun e w' ⟨he, hb⟩ => ⟨_, he, rfl, hb⟩
  · rintro e w' ⟨v, rfl, rfl, hb⟩
    exact ⟨rfl, hb⟩
section
variable {w0 w : World} {S C : Nat → Prop} {n Bd H : Nat} {d : Dk.St} {sz ev : Int} {vs vb : Value} {qs : List HQ} {bats : List (Int × Int)}
set_option maxRecDepth 100000 in
set_option maxHeartbeats 1000000 in
theorem htRead_end (h : HtL w0 S n Bd d H C sz ev vs vb qs bats w) (p : Nat → Addr) (hs : SentsG w0 p) (hl : qs.length ≤ 10000) (o most : Int) (hmono : ∀ a b, a ≤ b → b < qs.length → hqEnd qs a ≤ hqEnd qs b) (hlo : ∀ i, i < qs.length → hqEnd qs i ≤ o) :
    Calls Tryz.prog 24 #[.pointer (some ⟨H, 0, none⟩), .int .i64 o, .int .i64 most] w fun e w' => e = .returned (.tuple #[.slice none 0 0, errV (p 14)]) ∧ Below w.heap.size w w' := by
  obtain ⟨W1, hW1⟩ : ∃ W1, W1 = (w.alloc (.cells #[.pointer (some ⟨H, 0, none⟩)] 29)).alloc (.cells #[.int .i64 o] 2) := ⟨_, rfl⟩
  have hb1 : Below w.heap.size w W1 := hW1 ▸ balloc (balloc (Below.refl _ _) _) _
  have b0 : W1.cell? ⟨w.heap.size, 0, none⟩ = some (.pointer (some ⟨H, 0, none⟩)) := by rw [hW1]; exact cell_alloc_sl _ (cell_new_sl _ _ _)
  have b1 : W1.cell? ⟨w.heap.size + 1, 0, none⟩ = some (.int .i64 o) := by
    rw [hW1]
    have e : (w.alloc (.cells #[.pointer (some ⟨H, 0, none⟩)] 29)).heap.size = w.heap.size + 1 := by simp
    rw [← e]; exact cell_new_sl _ _ _
  have hz1 : w.heap.size + 1 < W1.heap.size := World.block_lt_of_cell? _ _ b1
  have HS := hide (htFind_any h hl o hmono qs.length (Nat.le_refl _) hlo (fun h => absurd h (Nat.lt_irrefl _)) W1 hb1 w.heap.size (w.heap.size + 1) b0 b1)
  obtain ⟨A, c, A', c', rfl, rfl, hq, -, -, -, -, c3, -⟩ := h.cells
  have hHl := h.lt
  have hle := hq.le
  have hmx := hq.mx
  have x3 := (hb1.cell (p := ⟨H, 3, none⟩) hHl).trans c3
  have hH1 := Nat.lt_of_lt_of_le hHl hb1.size
  have HB1 := hide hb1
  have HW1 := hide hW1
  have HG : Hid (∀ (W : World), Below w.heap.size w W → W.cell? ⟨0, 0, none⟩ = some (errV (p 14))) := hide fun W hW => (hs.below (h.below.trans (hW.mono h.below.size))).cell 14 (by omega)
  clear hs h hl hmono hlo hq c3 hW1 hb1 hHl
  generalize qs.length = m at *
  obtain ⟨B1, hB1⟩ : ∃ B1, B1 = w.heap.size := ⟨_, rfl⟩
  obtain ⟨B2, hB2⟩ : ∃ B2, B2 = w.heap.size + 1 := ⟨_, rfl⟩
  rw [← hB1] at b0
  rw [← hB2] at b1 hz1
  have HS2 : Hid (Calls Tryz.prog 53 #[.int .i64 m, .func (.func 54) #[] #[.pointer (some ⟨B1, 0, none⟩), .pointer (some ⟨B2, 0, none⟩)]] W1 fun e w' => e = .returned (.int .i64 m) ∧ Below W1.heap.size W1 w') := hide (by rw [hB1, hB2]; exact HS.out)
  have hzB1 : B1 < W1.heap.size := by omega
  have HBB1 := hide hB1
  have HBB2 := hide hB2
  clear HS
  go_enter Tryz.func24, Tryz.ntmps24
  go_upto_region 1 with fail
  rw [← HW1.out, ← hB1]
  rw [show B1 + 1 = B2 from by omega]
  clear hB1 hB2
  go_upto_region 3 with (first
    | (go_at_call 53; refine HS2.out.mono ?_; rintro e w2 ⟨rfl, hb⟩; have hb2 := HB1.out.trans (hb.mono HB1.out.size); have y0 := (hb.cell (p := ⟨B1, 0, none⟩) hzB1).trans b0; have y3 := (hb.cell (p := ⟨H, 3, none⟩) hH1).trans x3; have g14 := HG.out w2 hb2; have HB2 := hide hb2; clear hb hb2)
    | fail)
  go_region
  go_wp2_with fail
  go_ret2
  exact ⟨rfl, HB2.out.drew⟩
end
/-- Behind the last segment. -/
theorem htRead_hi {w0 w : World} {U : Nat → Prop} {n Bd H : Nat} {sz ev room : Int} {gs : List Ht.Gr} (h : HtA w0 U n Bd H sz ev room gs w) (hc : Ht.Cont gs) (p : Nat → Addr) (hs : SentsG w0 p) (hl : gs.length ≤ 10000) (o most : Int) (ho : ∀ g ∈ gs, Ht.lastOff g.1 g.2 ≤ o) :
    Calls Tryz.prog 24 #[.pointer (some ⟨H, 0, none⟩), .int .i64 o, .int .i64 most] w fun e w' => e = .returned (.tuple #[.slice none 0 0, errV (p 14)]) ∧ Below w.heap.size w w' := by
  obtain ⟨d, S, C, vs, vb, qs, names, h2, g, h3, rfl⟩ := h
  subst h3
  have hgd : ∀ i (hi : i < qs.length), qs.getD i default = qs[i] := fun i hi => by simp [List.getD, hi]
  have hml : ∀ i (hi : i < qs.length), Mz d qs[i].s room (Ht.used (qs.map fun q => (q.base, q.bs))) names qs[i].base ev qs[i].x qs[i].bs := fun i hi => g.mz _ (List.getElem_mem hi)
  have hend : ∀ i (hi : i < qs.length), hqEnd qs i = Ht.lastOff qs[i].base qs[i].bs := fun i hi => by unfold hqEnd; rw [hgd i hi]; exact (hml i hi).lastOff.1
  have hone : ∀ i (hi : i < qs.length), qs[i].base ≤ Ht.lastOff qs[i].base qs[i].bs := fun i hi => hc.one (qs[i].base, qs[i].bs) (List.mem_map.2 ⟨_, List.getElem_mem hi, rfl⟩)
  have htwo : ∀ a b (hab : a < b) (hb : b < qs.length), Ht.lastOff (qs[a]'(by omega)).base (qs[a]'(by omega)).bs ≤ qs[b].base := fun a b hab hb => by
    have := List.pairwise_iff_getElem.1 hc.two a b (by rw [List.length_map]; omega) (by rw [List.length_map]; omega) hab
    simpa using this
  refine htRead_end h2 p hs (by rw [List.length_map] at hl; exact hl) o most (fun a b hab hb => ?_) fun i hi => ?_
  · rw [hend a (by omega), hend b hb]
    rcases Nat.lt_or_ge a b with hlt | hge
    · have := htwo a b hlt hb
      have := hone b hb
      omega
    · obtain rfl : a = b := by omega
      exact Int.le_refl _
  · rw [hend i hi]
    exact ho (qs[i].base, qs[i].bs) (List.mem_map.2 ⟨_, List.getElem_mem hi, rfl⟩)
end Go.Proofs.YtcmgppacipdnaaaGreatDoor

namespace Go.Proofs.YtcmgppacipdnaaaGreatDoor
open Go.RowKit Go.Maps Go.Sort

namespace Sg
theorem off_strict (s : St) (h1 : s.edges.length = 1) (bs : List Rc.Bat) (hc : Chain s bs) (hg : ∀ b ∈ bs, Rc.Good b) (a b : Nat) (hab : a < b) (hb : b ≤ bs.length) : (ed (adds s bs).edges a).off < (ed (adds s bs).edges b).off := by
  have e1 := ed_base s h1 bs hc a (by omega)
  have e2 := ed_next s h1 bs a (by omega)
  have g := (hg _ (List.getElem_mem (show a < bs.length by omega))).n0
  have h3 := off_mono s h1 bs hc (a + 1) b (by omega) (by rw [adds_len]; omega)
  omega
theorem pos_strict (s : St) (h1 : s.edges.length = 1) (h0 : (last s.edges).pos = 0) (bs : List Rc.Bat) (a b : Nat) (hab : a < b) (hb : b ≤ bs.length) : (ed (adds s bs).edges a).pos < (ed (adds s bs).edges b).pos := by
  have h3 := pos_mono s h1 h0 bs (a + 1) b (by omega) (by rw [adds_len]; omega)
  have e1 := ed_pos s h1 h0 bs a (by omega)
  have e2 := ed_pos s h1 h0 bs (a + 1) (by omega)
  rw [List.take_succ_eq_append_getElem (show a < bs.length by omega), List.flatMap_append, List.length_append] at e2
  have h4 : (List.flatMap Rc.bytes [bs[a]]).length = (Rc.bytes bs[a]).length := by simp
  have h5 := Rc.bytes_len bs[a]
  omega
theorem St.same {a b : St} (h1 : a.file = b.file) (h2 : a.every = b.every) (h3 : a.edges = b.edges) (h4 : a.synced = b.synced) : a = b := by
  cases a; cases b; simp only at h1 h2 h3 h4; subst h1 h2 h3 h4; rfl
end Sg
section
variable {d d' : Dk.St} {s : Sg.St} {room used base every : Int} {names : Dk.Dir} {x : Nat} {bs : List Rc.Bat}
theorem Mz.offs (h : Mz d s room used names base every x bs) (a b : Nat) (hab : a < b) (hb : b ≤ bs.length) : (Sg.ed s.edges a).off < (Sg.ed s.edges b).off := by
  rw [h.edges]; exact Sg.off_strict _ rfl bs h.chain h.good a b hab hb
theorem Mz.poss (h : Mz d s room used names base every x bs) (a b : Nat) (hab : a < b) (hb : b ≤ bs.length) : (Sg.ed s.edges a).pos < (Sg.ed s.edges b).pos := by
  rw [h.edges]; exact Sg.pos_strict _ rfl rfl bs a b hab hb
end
end Go.Proofs.YtcmgppacipdnaaaGreatDoor

namespace Go.Proofs.YtcmgppacipdnaaaGreatDoor
open Go.RowKit Go.Maps

namespace Ht
/-- A place among all batches lies in one segment. -/
theorem all_place : ∀ (gs : List Gr) (q : Nat), q < (all gs).length → ∃ (k : Nat) (hk : k < gs.length) (j : Nat), j < gs[k].2.length ∧ q = (all (gs.take k)).length + j
  | [], q, h => by simp [all] at h
  | g :: gs, q, h => by
    have e : all (g :: gs) = g.2 ++ all gs := rfl
    by_cases h1 : q < g.2.length
    · exact ⟨0, by simp, q, h1, by simp [all]⟩
    · rw [e, List.length_append] at h
      obtain ⟨k, hk, j, hj, hq⟩ := all_place gs (q - g.2.length) (by omega)
      refine ⟨k + 1, by simpa using hk, j, hj, ?_⟩
      have e2 : all ((g :: gs).take (k + 1)) = g.2 ++ all (gs.take k) := rfl
      rw [e2, List.length_append]
      omega
/-- What stands behind a place, up to the segment's end. -/
theorem all_seg (gs : List Gr) (k : Nat) (hk : k < gs.length) (j c : Nat) (hc : j + c ≤ gs[k].2.length) : ((all gs).drop ((all (gs.take k)).length + j)).take c = (gs[k].2.drop j).take c := by
  have e1 : all gs = all (gs.take k) ++ (gs[k].2 ++ all (gs.drop (k + 1))) := by
    have : gs = gs.take k ++ gs[k] :: gs.drop (k + 1) := by rw [← List.drop_eq_getElem_cons hk, List.take_append_drop]
    have hx : ∀ (l1 l2 : List Gr) (g : Gr), all (l1 ++ g :: l2) = all l1 ++ (g.2 ++ all l2) := fun l1 l2 g => by simp [all]
    exact (congrArg all this).trans (hx _ _ _)
  rw [e1, ← List.drop_drop, List.drop_left, List.drop_append_of_le_length (by omega), List.take_append_of_le_length (by rw [List.length_drop]; omega)]
end Ht
section
variable {s0 : Sg.St} {cs : List Rc.Bat}
/-- Where the batches begin, and the last one ends. -/
def offP (s0 : Sg.St) (cs : List Rc.Bat) (k : Nat) : Int := (Sg.ed (Sg.adds s0 cs).edges k).off
theorem offP_base (h1 : s0.edges.length = 1) (hc : Sg.Chain s0 cs) (k : Nat) (hk : k < cs.length) : cs[k].base = offP s0 cs k := Sg.ed_base s0 h1 cs hc k hk
theorem offP_next (h1 : s0.edges.length = 1) (k : Nat) (hk : k < cs.length) : offP s0 cs (k + 1) = cs[k].base + cs[k].recs.length := Sg.ed_next s0 h1 cs k hk
theorem offP_lt (h1 : s0.edges.length = 1) (hc : Sg.Chain s0 cs) (hg : ∀ b ∈ cs, Rc.Good b) (a b : Nat) (hab : a < b) (hb : b ≤ cs.length) : offP s0 cs a < offP s0 cs b := Sg.off_strict s0 h1 cs hc hg a b hab hb
theorem offP_le (h1 : s0.edges.length = 1) (hc : Sg.Chain s0 cs) (hg : ∀ b ∈ cs, Rc.Good b) (a b : Nat) (hab : a ≤ b) (hb : b ≤ cs.length) : offP s0 cs a ≤ offP s0 cs b := by
  rcases Nat.lt_or_ge a b with h | h
  · exact Int.le_of_lt (offP_lt h1 hc hg a b h hb)
  · obtain rfl : a = b := by omega
    exact Int.le_refl _
theorem offP_find (h1 : s0.edges.length = 1) (hc : Sg.Chain s0 cs) (o : Int) (h0 : offP s0 cs 0 ≤ o) : ∀ n, n ≤ cs.length → o < offP s0 cs n → ∃ q, q < n ∧ offP s0 cs q ≤ o ∧ o < offP s0 cs (q + 1)
  | 0, _, h => by omega
  | n + 1, hn, h => by
    by_cases hx : offP s0 cs n ≤ o
    · exact ⟨n, by omega, hx, h⟩
    · obtain ⟨q, h2, h3⟩ := offP_find h1 hc o h0 n (by omega) (by omega)
      exact ⟨q, by omega, h3⟩
/-- An offset is in one batch alone. -/
theorem offP_only (h1 : s0.edges.length = 1) (hc : Sg.Chain s0 cs) (hg : ∀ b ∈ cs, Rc.Good b) (q : Nat) (hq : q < cs.length) (o : Int) (h2 : offP s0 cs q ≤ o) (h3 : o < offP s0 cs (q + 1)) (i : Nat) (hi : i < cs.length) : (offP s0 cs i ≤ o ∧ o < offP s0 cs (i + 1)) ↔ i = q := by
  constructor
  · rintro ⟨h4, h5⟩
    rcases Nat.lt_trichotomy i q with h | h | h
    · have := offP_le h1 hc hg (i + 1) q (by omega) (by omega); omega
    · exact h
    · have := offP_le h1 hc hg (q + 1) i (by omega) (by omega); omega
  · rintro rfl; exact ⟨h2, h3⟩
end
end Go.Proofs.YtcmgppacipdnaaaGreatDoor

namespace Go.Proofs.YtcmgppacipdnaaaGreatDoor
open Go.RowKit Go.Maps

section
variable {s0 : Sg.St} {cs : List Rc.Bat}
/-- Where the batch that is told as the i-th begins. -/
def atO (s0 : Sg.St) (cs : List Rc.Bat) (o : Int) (q i : Nat) : Int := if i = 0 then o else offP s0 cs (q + i)
/-- What is told of these from an offset on. -/
def toldR (s0 : Sg.St) (cs : List Rc.Bat) (o : Int) (q c : Nat) (b : Rc.Bat) : List Rc.Bat := cutB b o (o - offP s0 cs q).toNat :: (cs.drop (q + 1)).take (c - 1)
theorem toldR_len {o : Int} {q c : Nat} {b : Rc.Bat} (hc : 1 ≤ c) (hq : q + c ≤ cs.length) : (toldR s0 cs o q c b).length = c := by
  simp only [toldR, List.length_cons, List.length_take, List.length_drop]; omega
theorem toldR_at (h1 : s0.edges.length = 1) (hc : Sg.Chain s0 cs) (hg : ∀ b ∈ cs, Rc.Good b) {o : Int} {q c : Nat} (_hc1 : 1 ≤ c) (_hq : q + c ≤ cs.length) (hq0 : q < cs.length) (h2 : offP s0 cs q ≤ o) (h3 : o < offP s0 cs (q + 1)) (i : Nat) (hi : i < (toldR s0 cs o q c cs[q]).length) (hic : q + i < cs.length) :
    (toldR s0 cs o q c cs[q])[i].base = atO s0 cs o q i ∧ (toldR s0 cs o q c cs[q])[i].base + (toldR s0 cs o q c cs[q])[i].recs.length = atO s0 cs o q (i + 1) ∧ (toldR s0 cs o q c cs[q])[i].epoch = cs[q + i].epoch ∧ (toldR s0 cs o q c cs[q])[i].recs = cs[q + i].recs.drop (atO s0 cs o q i - offP s0 cs (q + i)).toNat ∧ offP s0 cs (q + i) ≤ atO s0 cs o q i ∧ atO s0 cs o q i < offP s0 cs (q + i + 1) ∧ (atO s0 cs o q i - offP s0 cs (q + i)).toNat < cs[q + i].recs.length := by
  have hn := offP_next h1 (s0 := s0) (cs := cs) q hq0
  have hb := offP_base h1 hc q hq0
  cases i with
  | zero =>
    have e : atO s0 cs o q 0 = o := rfl
    have e1 : atO s0 cs o q (0 + 1) = offP s0 cs (q + 1) := rfl
    simp only [e, e1, toldR, List.getElem_cons_zero, cutB, Nat.add_zero]
    refine ⟨trivial, ?_, trivial, trivial, h2, h3, by omega⟩
    rw [List.length_drop, hn, hb]
    omega
  | succ i =>
    have e : ∀ k, atO s0 cs o q (k + 1) = offP s0 cs (q + (k + 1)) := fun k => rfl
    have hx : (toldR s0 cs o q c cs[q])[i + 1] = cs[q + (i + 1)] := by
      simp only [toldR, List.getElem_cons_succ, List.getElem_take, List.getElem_drop]
      congr 1; omega
    have hn2 := offP_next h1 (s0 := s0) (cs := cs) (q + (i + 1)) hic
    have hb2 := offP_base h1 hc (q + (i + 1)) hic
    have hgd := hg cs[q + (i + 1)] (List.getElem_mem hic)
    have hlt := offP_lt h1 hc hg (q + (i + 1)) (q + (i + 1) + 1) (by omega) (by omega)
    rw [hx, e, e]
    refine ⟨hb2, ?_, rfl, by simp, Int.le_refl _, hlt, by have := hgd.n0; simp; omega⟩
    rw [show q + (i + 1 + 1) = q + (i + 1) + 1 by omega, hn2]
end
end Go.Proofs.YtcmgppacipdnaaaGreatDoor

namespace Go.Proofs.YtcmgppacipdnaaaGreatDoor
open Go.RowKit Go.Maps

namespace Ht
theorem all_get (gs : List Gr) (k : Nat) (hk : k < gs.length) (j : Nat) (hj : j < gs[k].2.length) (hq : (all (gs.take k)).length + j < (all gs).length) : (all gs)[(all (gs.take k)).length + j] = gs[k].2[j] := by
  have h := all_seg gs k hk j 1 (by omega)
  have e1 : ((all gs).drop ((all (gs.take k)).length + j)).take 1 = [(all gs)[(all (gs.take k)).length + j]] := by
    rw [List.drop_eq_getElem_cons hq]; rfl
  have e2 : (gs[k].2.drop j).take 1 = [gs[k].2[j]] := by rw [List.drop_eq_getElem_cons hj]; rfl
  rw [e1, e2] at h
  exact (List.cons.inj h).1
theorem all_room (gs : List Gr) (k : Nat) (hk : k < gs.length) : (all (gs.take k)).length + gs[k].2.length ≤ (all gs).length := by
  have hx : ∀ (l1 l2 : List Gr), all (l1 ++ l2) = all l1 ++ all l2 := fun l1 l2 => by simp [all]
  have e1 : all gs = all (gs.take (k + 1)) ++ all (gs.drop (k + 1)) := by rw [← hx, List.take_append_drop]
  rw [e1, all_take gs k hk, List.length_append, List.length_append]; omega
/-- A segment ends where the batch behind it begins. -/
theorem end_off {s0 : Sg.St} (h1 : s0.edges.length = 1) (gs : List Gr) (k : Nat) (hk : k < gs.length) (hne : 0 < gs[k].2.length) : lastOff gs[k].1 gs[k].2 = offP s0 (all gs) ((all (gs.take k)).length + gs[k].2.length) := by
  have hr := all_room gs k hk
  have e := lastOff_at gs[k].1 gs[k].2 (gs[k].2.length - 1) (by omega)
  have e2 := all_get gs k hk (gs[k].2.length - 1) (by omega) (by omega)
  have e3 := offP_next (s0 := s0) (cs := all gs) h1 ((all (gs.take k)).length + (gs[k].2.length - 1)) (by omega)
  rw [e2] at e3
  rw [e, ← e3]
  congr 1; omega
/-- An offset is in one segment alone. -/
theorem seg_only {gs : List Gr} (hc : Cont gs) (k : Nat) (hk : k < gs.length) (o : Int) (h1 : gs[k].1 ≤ o) (h2 : o < lastOff gs[k].1 gs[k].2) (i : Nat) (hi : i < gs.length) : (gs[i].1 ≤ o ∧ o < lastOff gs[i].1 gs[i].2) ↔ i = k := by
  have hp := List.pairwise_iff_getElem.1 hc.two
  constructor
  · rintro ⟨h3, h4⟩
    rcases Nat.lt_trichotomy i k with h | h | h
    · have := hp i k hi hk h; omega
    · exact h
    · have := hp k i hk hi h; omega
  · rintro rfl; exact ⟨h1, h2⟩
theorem size_cons (b : Rc.Bat) (l : List Rc.Bat) : size (b :: l) = (Rc.bytes b).length + (l.flatMap Rc.bytes).length := by
  unfold size; rw [List.flatMap_cons, List.length_append]
end Ht
/-- What a Read is told, by the place of its offset among all batches. -/
theorem htRead_o {w0 w : World} {U : Nat → Prop} {n Bd H : Nat} {sz ev room : Int} {gs : List Ht.Gr} (h : HtA w0 U n Bd H sz ev room gs w) (hc : Ht.Cont gs) (p : Nat → Addr) (hs : SentsG w0 p) (ht : Tabs w0) (hn : n ≤ 1000) (hl : gs.length ≤ 10000) (hus : Ht.used gs ≤ 900000) {s0 : Sg.St} {cs : List Rc.Bat} (h1 : s0.edges.length = 1) (hch : Sg.Chain s0 cs) (hall : Ht.all gs = cs) (k : Nat) (hk : k < gs.length) (j : Nat) (hj : j < gs[k].2.length) (q : Nat) (hq : q = (Ht.all (gs.take k)).length + j) (hqc : q < cs.length) (o most : Int) (h2 : offP s0 cs q ≤ o) (h3 : o < offP s0 cs (q + 1)) :
    ∃ c : Nat, 1 ≤ c ∧ j + c ≤ gs[k].2.length ∧ (c = 1 ∨ ((Ht.size (toldR s0 cs o q c cs[q]) : Nat) : Int) ≤ most) ∧ (j + c < gs[k].2.length → ∀ hqq : q + c < cs.length, most < ((Ht.size (toldR s0 cs o q c cs[q]) : Nat) : Int) + (Rc.bytes cs[q + c]).length) ∧
    Calls Tryz.prog 24 #[.pointer (some ⟨H, 0, none⟩), .int .i64 o, .int .i64 most] w fun e w' => ∃ v, e = .returned (.tuple #[v, .nilIface]) ∧ (∃ ps, BRow w' w.heap.size v ps ∧ ps.map (·.b) = toldR s0 cs o q c cs[q]) ∧ Below w.heap.size w w' := by
  subst hall
  subst hq
  have e := Ht.all_get gs k hk j hj hqc
  have eb := offP_base h1 hch _ hqc
  have en := offP_next (s0 := s0) h1 _ hqc
  obtain ⟨fin, f1, f2, f3, f4, f5⟩ := htRead_M h hc p hs ht hn hl hus k hk j hj (o - offP s0 (Ht.all gs) ((Ht.all (gs.take k)).length + j)).toNat (by rw [← e]; omega) o most (by rw [← e]; omega)
  have hX : toldR s0 (Ht.all gs) o ((Ht.all (gs.take k)).length + j) (fin - j) (Ht.all gs)[(Ht.all (gs.take k)).length + j] = cutB gs[k].2[j] o (o - offP s0 (Ht.all gs) ((Ht.all (gs.take k)).length + j)).toNat :: (gs[k].2.drop (j + 1)).take (fin - (j + 1)) := by
    have h4 := Ht.all_seg gs k hk (j + 1) (fin - (j + 1)) (by omega)
    unfold toldR
    rw [e, ← h4]
    congr 2
  refine ⟨fin - j, by omega, by omega, ?_, fun hlt hqq => ?_, ?_⟩
  · rw [hX, Ht.size_cons]
    rcases f3 with f3 | f3
    · left; omega
    · right; omega
  · have f6 := f4.resolve_left (by omega)
    have hfl : fin < gs[k].2.length := by omega
    have e5 : (gs[k].2.drop (j + 1)).take (fin + 1 - (j + 1)) = (gs[k].2.drop (j + 1)).take (fin - (j + 1)) ++ [gs[k].2[fin]] := by
      have h5 : fin - (j + 1) < (gs[k].2.drop (j + 1)).length := by rw [List.length_drop]; omega
      rw [show fin + 1 - (j + 1) = fin - (j + 1) + 1 by omega, List.take_succ_eq_append_getElem h5]
      congr 2
      rw [List.getElem_drop]
      congr 1; omega
    have e6 : (Ht.all gs)[(Ht.all (gs.take k)).length + j + (fin - j)] = gs[k].2[fin] := by
      rw [← Ht.all_get gs k hk fin hfl (by omega)]
      congr 1; omega
    rw [e5, List.flatMap_append, List.length_append] at f6
    have e7 : ([gs[k].2[fin]].flatMap Rc.bytes).length = (Rc.bytes gs[k].2[fin]).length := by simp
    rw [hX, Ht.size_cons, e6]
    omega
  · rw [hX]; exact f5
/-- What a Read of no bytes is told: one batch. -/
theorem htRead_b {w0 w : World} {U : Nat → Prop} {n Bd H : Nat} {sz ev room : Int} {gs : List Ht.Gr} (h : HtA w0 U n Bd H sz ev room gs w) (hc : Ht.Cont gs) (p : Nat → Addr) (hs : SentsG w0 p) (ht : Tabs w0) (hn : n ≤ 1000) (hl : gs.length ≤ 10000) (hus : Ht.used gs ≤ 900000) {s0 : Sg.St} {cs : List Rc.Bat} (h1 : s0.edges.length = 1) (hch : Sg.Chain s0 cs) (hg : ∀ b ∈ cs, Rc.Good b) (hall : Ht.all gs = cs) (k : Nat) (hk : k < gs.length) (j : Nat) (hj : j < gs[k].2.length) (q : Nat) (hq : q = (Ht.all (gs.take k)).length + j) (hqc : q < cs.length) :
    Calls Tryz.prog 24 #[.pointer (some ⟨H, 0, none⟩), .int .i64 (offP s0 cs q), .int .i64 0] w fun e w' => ∃ v, e = .returned (.tuple #[v, .nilIface]) ∧ (∃ ps, BRow w' w.heap.size v ps ∧ ps.map (·.b) = [cs[q]]) ∧ Below w.heap.size w w' := by
  obtain ⟨c, c1, c2, c3, -, c5⟩ := htRead_o h hc p hs ht hn hl hus h1 hch hall k hk j hj q hq hqc (offP s0 cs q) 0 (Int.le_refl _) (offP_lt h1 hch hg q (q + 1) (by omega) (by omega))
  have hc1 : c = 1 := c3.resolve_right fun h2 => by
    unfold toldR at h2
    rw [Ht.size_cons] at h2
    have := Rc.bytes_len (cutB cs[q] (offP s0 cs q) (offP s0 cs q - offP s0 cs q).toNat)
    omega
  subst hc1
  have e : toldR s0 cs (offP s0 cs q) q 1 cs[q] = [cs[q]] := by
    unfold toldR cutB
    rw [← offP_base h1 hch q hqc]
    simp
  rw [← e]
  exact c5
/-- Of an offset that a log has: its place. -/
theorem offP_place {s0 : Sg.St} {cs : List Rc.Bat} {gs : List Ht.Gr} (h1 : s0.edges.length = 1) (hch : Sg.Chain s0 cs) (hg : ∀ b ∈ cs, Rc.Good b) (hall : Ht.all gs = cs) (hin : ∀ g ∈ gs, ∀ b ∈ g.2, g.1 ≤ b.base ∧ b.base < Ht.lastOff g.1 g.2) (o : Int) (h2 : offP s0 cs 0 ≤ o) (h3 : o < offP s0 cs cs.length) :
    ∃ (q : Nat) (_hq : q < cs.length) (k : Nat) (hk : k < gs.length) (j : Nat), j < gs[k].2.length ∧ q = (Ht.all (gs.take k)).length + j ∧ offP s0 cs q ≤ o ∧ o < offP s0 cs (q + 1) ∧ gs[k].1 ≤ o ∧ o < Ht.lastOff gs[k].1 gs[k].2 ∧ Ht.lastOff gs[k].1 gs[k].2 = offP s0 cs ((Ht.all (gs.take k)).length + gs[k].2.length) ∧ (Ht.all (gs.take k)).length + gs[k].2.length ≤ cs.length := by
  obtain ⟨q, hq, h4, h5⟩ := offP_find h1 hch o h2 cs.length (Nat.le_refl _) h3
  subst hall
  obtain ⟨k, hk, j, hj, hqk⟩ := Ht.all_place gs q hq
  have e := Ht.end_off (s0 := s0) h1 gs k hk (by omega)
  have hr := Ht.all_room gs k hk
  have hge := offP_le h1 hch hg (q + 1) ((Ht.all (gs.take k)).length + gs[k].2.length) (by omega) (by omega)
  refine ⟨q, hq, k, hk, j, hj, hqk, h4, h5, ?_, by omega, e, hr⟩
  have hb := offP_base h1 hch q hq
  subst hqk
  have e2 := Ht.all_get gs k hk j hj hq
  have := (hin _ (List.getElem_mem hk) _ (List.getElem_mem hj)).1
  rw [← e2] at this
  omega
end Go.Proofs.YtcmgppacipdnaaaGreatDoor
