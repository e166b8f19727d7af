/-
  A log of segments: all of its batches, read one segment after the other.
-/
import Derived.Test.YtcmgppacipdnaaaGreatDoorQEp
import Derived.Test.YtcmgppacipdnaaaGreatDoorQRfV
import Derived.LoopTactic
import Derived.Deep.LoopGhost
namespace Go.Proofs.YtcmgppacipdnaaaGreatDoor
open Go.RowKit Go.Maps

namespace Ht
/-- Segments without a gap, none of them empty. -/
def Tight : Int → List Gr → Prop
  | _, [] => True
  | e, g :: gs => g.1 = e ∧ g.2 ≠ [] ∧ Tight (lastOff g.1 g.2) gs
def endT : Int → List Gr → Int
  | e, [] => e
  | _, g :: gs => endT (lastOff g.1 g.2) gs
theorem tight_snoc : ∀ (gs : List Gr) (e : Int) (g : Gr), Tight e (gs ++ [g]) ↔ Tight e gs ∧ g.1 = endT e gs ∧ g.2 ≠ []
  | [], e, g => by simp [Tight, endT]
  | x :: gs, e, g => by
    simp only [List.cons_append, Tight, endT, tight_snoc gs]
    constructor
    · rintro ⟨h1, h2, h3, h4⟩; exact ⟨⟨h1, h2, h3⟩, h4⟩
    · rintro ⟨⟨h1, h2, h3⟩, h4⟩; exact ⟨h1, h2, h3, h4⟩
theorem endT_snoc : ∀ (gs : List Gr) (e : Int) (g : Gr), endT e (gs ++ [g]) = lastOff g.1 g.2
  | [], e, g => rfl
  | x :: gs, e, g => by simp only [List.cons_append, endT, endT_snoc gs]
theorem tight_at (gs : List Gr) (e : Int) (h : Tight e gs) (k : Nat) (hk : k < gs.length) : gs[k].1 = endT e (gs.take k) ∧ gs[k].2 ≠ [] := by
  have e1 : gs = gs.take (k + 1) ++ gs.drop (k + 1) := (List.take_append_drop _ _).symm
  have key : ∀ (a b : List Gr) (e : Int), Tight e (a ++ b) → Tight e a := fun a => by
    induction a with
    | nil => intro b e _; trivial
    | cons x a ih => intro b e h; exact ⟨h.1, h.2.1, ih b _ h.2.2⟩
  rw [e1] at h
  have h2 := key _ _ _ h
  rw [List.take_succ_eq_append_getElem hk, tight_snoc] at h2
  exact h2.2
theorem grp_tight (sz base : Int) (cs : List Rc.Bat) (s0 : Sg.St) (hso : (Sg.last s0.edges).off = base) (hch : Sg.Chain s0 cs) : cs = [] ∨ Tight base (grp sz base cs) := by
  induction cs using snoc_ind with
  | nil => exact .inl rfl
  | snoc cs b ih =>
    have hch2 := Sg.Chain.append.1 hch
    obtain ⟨g0, o, ds, e, hlo, hne⟩ := grp_last sz base cs
    have hfol := hch2.2.1
    unfold Sg.follows at hfol
    rw [Bool.and_eq_true, decide_eq_true_eq, decide_eq_true_eq, chain_last hso] at hfol
    refine .inr ?_
    rw [grp_snoc, e]
    rcases ih hch2.1 with h0 | h
    · have hall := (grp_all sz base cs).1
      subst h0
      have e2 : g0 ++ [(o, ds)] = [(base, [])] := e.symm
      have e3 : ([] : List Gr) ++ [(base, ([] : List Rc.Bat))] = g0 ++ [(o, ds)] := e2.symm
      obtain ⟨e4, e5⟩ := List.append_inj' e3 rfl
      injection e5 with e5 _
      injection e5 with e5 e6
      subst e4 e5 e6
      rw [add_small (by simp [big, size])]
      exact ⟨rfl, by simp, trivial⟩
    · rw [e] at h
      have h2 := (tight_snoc g0 base (o, ds)).1 h
      cases hb : big sz ds b
      · rw [add_small hb, tight_snoc]
        exact ⟨h2.1, h2.2.1, by simp⟩
      · rw [add_big hb, tight_snoc]
        refine ⟨h, ?_, by simp⟩
        rw [endT_snoc]
        show b.base = lastOff o ds
        rw [hlo]; exact hfol.1
theorem tight_app : ∀ (a : List Gr) (e : Int) (b : List Gr), Tight e (a ++ b) → Tight e a ∧ Tight (endT e a) b
  | [], _, _, h => ⟨trivial, h⟩
  | x :: a, e, b, h => by
    have := tight_app a _ b h.2.2
    exact ⟨⟨h.1, h.2.1, this.1⟩, this.2⟩
theorem endT_app : ∀ (a : List Gr) (e : Int) (b : List Gr), endT e (a ++ b) = endT (endT e a) b
  | [], _, _ => rfl
  | x :: a, e, b => by simp only [List.cons_append, endT, endT_app a]
theorem endT_le : ∀ (gs : List Gr) (e : Int), Tight e gs → (∀ g ∈ gs, g.1 ≤ lastOff g.1 g.2) → e ≤ endT e gs
  | [], _, _, _ => Int.le_refl _
  | x :: gs, e, h, h1 => by
    have h2 := endT_le gs _ h.2.2 (fun g hg => h1 g (List.mem_cons_of_mem _ hg))
    have h3 := h1 x List.mem_cons_self
    have h4 := h.1
    show e ≤ endT (lastOff x.1 x.2) gs
    omega
theorem endT_take (gs : List Gr) (e : Int) (h : Tight e gs) (h1 : ∀ g ∈ gs, g.1 ≤ lastOff g.1 g.2) (k : Nat) (_hk : k ≤ gs.length) : endT e (gs.take k) ≤ endT e gs := by
  have e1 : gs = gs.take k ++ gs.drop k := (List.take_append_drop _ _).symm
  have h2 := (tight_app (gs.take k) e (gs.drop k) (by rw [← e1]; exact h)).2
  have h3 := endT_le _ _ h2 (fun g hg => h1 g (List.mem_of_mem_drop hg))
  rw [← endT_app, ← e1] at h3
  exact h3
theorem lastOff_at (o : Int) (bs : List Rc.Bat) (k : Nat) (hk : k + 1 = bs.length) : lastOff o bs = bs[k].base + bs[k].recs.length := by
  obtain ⟨ds, b, rfl⟩ : ∃ ds b, bs = ds ++ [b] := by
    rcases List.eq_nil_or_concat bs with h | ⟨ds, b, h⟩
    · subst h; simp at hk
    · exact ⟨ds, b, by rw [h, List.concat_eq_append]⟩
  obtain rfl : k = ds.length := by simpa using hk
  rw [lastOff_snoc]
  simp
theorem all_take (gs : List Gr) (k : Nat) (hk : k < gs.length) : all (gs.take (k + 1)) = all (gs.take k) ++ gs[k].2 := by
  unfold all
  rw [List.take_succ_eq_append_getElem hk, List.flatMap_append]
  simp
end Ht
set_option maxRecDepth 100000 in
/-- Read of a segment from its beginning on, with no limit to speak of. -/
theorem htRead_all {w0 w : World} {U : Nat → Prop} {n Bd H : Nat} {sz ev room : Int} {gs : List Ht.Gr} (h : HtA w0 U n Bd H sz ev room gs w) (hc : Ht.Cont gs) (p : Nat → Addr) (hs : SentsG w0 p) (ht : Tabs w0) (hn : n ≤ 1000) (hl : gs.length ≤ 10000) (hus : Ht.used gs ≤ 900000) (k : Nat) (hk : k < gs.length) (hne : 0 < gs[k].2.length) (o : Int) (ho : o = gs[k].2[0].base) :
    Calls Tryz.prog 24 #[.pointer (some ⟨H, 0, none⟩), .int .i64 o, .int .i64 1048576] w fun e w' => ∃ v, e = .returned (.tuple #[v, .nilIface]) ∧ (∃ ps, BRow w' w.heap.size v ps ∧ ps.map (·.b) = gs[k].2) ∧ Below w.heap.size w w' := by
  obtain ⟨d, S, C, vs, vb, qs, names, h2, g, h3, rfl⟩ := h
  subst h3
  have hkq : k < qs.length := by rw [List.length_map] at hk; exact hk
  have hgk : (qs.map fun q => (q.base, q.bs))[k] = (qs[k].base, qs[k].bs) := by simp
  have hgd : ∀ i (hi : i < qs.length), qs.getD i default = qs[i] := fun i hi => by simp [List.getD, hi]
  have hml : ∀ i (hi : i < qs.length), Mz d qs[i].s room (Ht.used (qs.map fun q => (q.base, q.bs))) names qs[i].base ev qs[i].x qs[i].bs := fun i hi => g.mz _ (List.getElem_mem hi)
  have hend : ∀ i (hi : i < qs.length), hqEnd qs i = Ht.lastOff qs[i].base qs[i].bs := fun i hi => by unfold hqEnd; rw [hgd i hi]; exact (hml i hi).lastOff.1
  have hone : ∀ i (hi : i < qs.length), qs[i].base ≤ Ht.lastOff qs[i].base qs[i].bs := fun i hi => hc.one (qs[i].base, qs[i].bs) (List.mem_map.2 ⟨_, List.getElem_mem hi, rfl⟩)
  have htwo : ∀ a b (hab : a < b) (hb : b < qs.length), Ht.lastOff (qs[a]'(by omega)).base (qs[a]'(by omega)).bs ≤ qs[b].base := fun a b hab hb => by
    have := List.pairwise_iff_getElem.1 hc.two a b (by rw [List.length_map]; omega) (by rw [List.length_map]; omega) hab
    simpa using this
  simp only [hgk] at hne ho ⊢
  have hbd := (hml k hkq).bounds 0 hne
  have hqb : (qs[k].bs.flatMap Rc.bytes).length ≤ 1000000 := by
    have h4 : ∀ (l : List Ht.Gr) (x : Ht.Gr), x ∈ l → (x.2.flatMap Rc.bytes).length ≤ Ht.size (Ht.all l) := fun l x hx => by
      induction l with
      | nil => cases hx
      | cons y l ih =>
        have e : Ht.all (y :: l) = y.2 ++ Ht.all l := rfl
        rw [e]
        unfold Ht.size at ih ⊢
        rw [List.flatMap_append, List.length_append]
        rcases List.mem_cons.1 hx with rfl | hx
        · omega
        · have := ih hx; omega
    have h5 := h4 (qs.map fun q => (q.base, q.bs)) (qs[k].base, qs[k].bs) (List.mem_map.2 ⟨_, List.getElem_mem hkq, rfl⟩)
    unfold Ht.used at hus
    simp only at h5
    omega
  obtain ⟨z, hz⟩ := hml k hkq
  obtain ⟨f, fin, hrd, h6, h7, h8⟩ := hz.readAt hqb 1048576 0 hne
  have hfin := h8 (by omega)
  rw [← ho] at hrd
  have hgood := hz.good qs[k].bs[0] (List.getElem_mem hne)
  have hn0 := hgood.n0
  have hob : -9223372036854775808 ≤ o ∧ o ≤ 9223372036854775807 := by
    have := hgood.base0; have := hgood.base1; omega
  refine htRead_gen h2 (by rw [List.length_map] at hl; exact hl) o 1048576 (fun a b hab hb => ?_) k hkq (fun i hi => ?_) ?_ (fun v W => ∃ ps, BRow W w.heap.size v ps ∧ ps.map (·.b) = qs[k].bs) (fun v W W' ⟨ps, h5, h6⟩ hb => ⟨ps, h5.below hb, h6⟩) .nilIface (fun W hW => ?_)
  · rw [hend a (by omega), hend b hb]
    rcases Nat.lt_or_ge a b with hlt | hge
    · have := htwo a b hlt hb
      have := hone b hb
      omega
    · obtain rfl : a = b := by omega
      exact Int.le_refl _
  · rw [hend i (by omega)]
    have := htwo i k hi hkq
    omega
  · rw [hend k hkq]; omega
  · rw [hgd k hkq]
    refine (sgRead_good w0 W S qs[k].T n Bd qs[k].X d qs[k].s p ((h2.grow hW).seg _ (List.getElem_mem hkq)) hs ht hn o 1048576 hob 0 0 f fin _ _ hrd).mono ?_
    rintro e w' ⟨v, ps, he, hb, hq, hw⟩
    refine ⟨v, he, ⟨ps, hb.mono hW.size, ?_⟩, hw⟩
    rw [hq, hfin, ho, cutB_zero, List.take_of_length_le (by rw [List.length_drop]; omega)]
    exact (List.drop_eq_getElem_cons hne).symm.trans List.drop_zero
theorem Mz.head {d : Dk.St} {s : Sg.St} {room used : Int} {names : Dk.Dir} {base ev : Int} {x : Nat} {bs : List Rc.Bat} (h : Mz d s room used names base ev x bs) (hne : 0 < bs.length) : bs[0].base = base := by
  rw [Sg.ed_base (Sg.begin (Nm.seg base) base ev) rfl bs h.chain 0 hne, Sg.adds_ed _ _ 0 (by simp [Sg.begin])]
  rfl
theorem BRow.own_lt {w : World} {lo : Nat} {v : Value} {ps : List PBat} (h : BRow w lo v ps) (k : Nat) (hk : v.ownBlock = some k) : k < w.heap.size := by
  rcases h.own.2 with ⟨rfl, _⟩ | ⟨g, cap, cur, rfl, hg, hh, _⟩
  · cases hk
  · obtain rfl : g = k := by simpa [Value.ownBlock] using hk
    rcases Nat.lt_or_ge g w.heap.size with h1 | h1
    · exact h1
    · rw [Array.getElem?_eq_none h1] at hh; cases hh
theorem BRow.own_lo {w : World} {lo : Nat} {v : Value} {ps : List PBat} (h : BRow w lo v ps) (k : Nat) (hk : v.ownBlock = some k) : lo ≤ k := by
  rcases h.own.2 with ⟨rfl, _⟩ | ⟨g, cap, cur, rfl, hg, hh, _⟩
  · cases hk
  · obtain rfl : g = k := by simpa [Value.ownBlock] using hk
    exact hg
theorem BRow.addr_lo {w : World} {lo n c : Nat} {b o : Nat} {ps : List PBat} (h : BRow w lo (.slice (some ⟨b, o, none⟩) n c) ps) : lo ≤ b := by
  rcases h.own.2 with ⟨e, _⟩ | ⟨g, cap, cur, e, hg, hh, _⟩
  · cases e
  · injection e with e _ _
    injection e with e
    injection e with e
    subst e
    exact hg
theorem BRow.slice {w : World} {lo : Nat} {v : Value} {ps : List PBat} (h : BRow w lo v ps) : ∃ A c, v = .slice A ps.length c ∧ Bats w A (ps.map (·.b)) := by
  obtain ⟨A, c, e, -, -, hb⟩ := h.val
  exact ⟨A, c, e, hb⟩
set_option maxRecDepth 100000 in
set_option maxHeartbeats 4000000 in
/-- The statements' all. -/
theorem htAll_any {w0 w : World} {U : Nat → Prop} {n Bd H : Nat} {sz base : Int} {cs : List Rc.Bat} (h : HtA w0 U n Bd H sz 60 1048576 (Ht.grp sz base cs) w) (p : Nat → Addr) (hs : SentsG w0 p) (ht : Tabs w0) (hn : n ≤ 1000) (s0 : Sg.St) (hso : (Sg.last s0.edges).off = base) (hch : Sg.Chain s0 cs) (hg : ∀ b ∈ cs, Rc.Good b) (hl : cs.length ≤ 100) (hsm : ∀ b ∈ cs, (Rc.bytes b).length ≤ 300) :
    Calls Tryz.prog 22 #[.pointer (some ⟨H, 0, none⟩)] w fun e w' => ∃ v, e = .returned (.tuple #[v, .bool true]) ∧ (∃ ps, BRow w' w.heap.size v ps ∧ ps.map (·.b) = cs) ∧ Below w.heap.size w w' := by
  have hcont := Ht.grp_cont sz base cs s0 hso hch
  have hti := Ht.grp_tight sz base cs s0 hso hch
  have hall := (Ht.grp_all sz base cs).1
  have hgl := Ht.grp_len sz base cs
  have hus := Ht.grp_used sz base cs
  have hfl := flat_len_le Rc.bytes 300 cs hsm
  have hus2 : Ht.used (Ht.grp sz base cs) ≤ 900000 := by rw [hus]; unfold Ht.size; have : 300 * cs.length ≤ 300 * 100 := Nat.mul_le_mul_left _ hl; omega
  obtain ⟨c1, g1, e1⟩ := Ht.grp_first sz base cs
  have HST : Hid (Calls Tryz.prog 20 #[.pointer (some ⟨H, 0, none⟩)] w fun e w' => e = .returned (.int .i64 base) ∧ Below w.heap.size w w') := hide (htStart_A (o := base) (bs := c1) (gs := g1) (by rw [← e1]; exact h))
  have HEN := hide (fun (W : World) (hW : Below w.heap.size w W) => htEnd_grp (h.grow hW))
  have hnil : cs = [] → Ht.grp sz base cs = [(base, [])] := fun e => by rw [e]; rfl
  obtain ⟨gs, hgs⟩ : ∃ gs, gs = Ht.grp sz base cs := ⟨_, rfl⟩
  rw [← hgs] at h hcont hti hall hgl hus2 hnil
  have hendT : cs ≠ [] → Ht.endT base gs = Ht.lastOff base cs := fun hne => by
    obtain ⟨g0, o, ds, e, hlo, -⟩ := Ht.grp_last sz base cs
    rw [hgs, e, Ht.endT_snoc, ← hlo]
  have HRD := hide (fun (W : World) (hW : Below w.heap.size w W) (k : Nat) (hk : k < gs.length) (hne : 0 < gs[k].2.length) (o : Int) (ho : o = gs[k].2[0].base) => htRead_all (h.grow hW) hcont p hs ht hn (by omega) hus2 k hk hne o ho)
  have HAT : Hid (cs ≠ [] → ∀ k (hk : k < gs.length), ∃ hne : 0 < gs[k].2.length, Ht.endT base (gs.take k) = gs[k].2[0].base ∧ Ht.endT base (gs.take k) < Ht.lastOff base cs ∧ Ht.endT base (gs.take (k + 1)) = Ht.lastOff gs[k].1 gs[k].2 ∧ Ht.endT base (gs.take k) < Ht.endT base (gs.take (k + 1))) := hide (fun hne k hk => by
    have ht2 : Ht.Tight base gs := hti.resolve_left hne
    obtain ⟨k1, k2⟩ := Ht.tight_at gs base ht2 k hk
    have hpos : 0 < gs[k].2.length := List.length_pos_iff.2 k2
    have hle := Ht.endT_take gs base ht2 hcont.one (k + 1) hk
    have hsn : Ht.endT base (gs.take (k + 1)) = Ht.lastOff gs[k].1 gs[k].2 := by
      rw [List.take_succ_eq_append_getElem hk, Ht.endT_snoc]
    rw [hendT hne, hsn] at hle
    rw [hsn]
    suffices hq : Ht.endT base (gs.take k) = gs[k].2[0].base ∧ Ht.endT base (gs.take k) < Ht.lastOff gs[k].1 gs[k].2 from ⟨hpos, hq.1, by have := hq.2; omega, rfl, hq.2⟩
    refine ⟨?_, ?_⟩
    all_goals
      obtain ⟨d, S, C, vs, vb, qs, names, -, g, h3, -⟩ := h
      subst h3
      have hkq : k < qs.length := by rw [List.length_map] at hk; exact hk
      have hgk : (qs.map fun q => (q.base, q.bs))[k] = (qs[k].base, qs[k].bs) := by simp
      have hml := g.mz _ (List.getElem_mem hkq)
      simp only [hgk] at hpos k1 k2 hle ⊢
    · rw [← k1]; exact (hml.head hpos).symm
    · rw [← k1]
      have h5 := hml.base_lt k2
      rw [hml.lastOff.1] at h5
      exact h5)
  have HGG : Hid (∀ g ∈ gs, ∀ b ∈ g.2, Rc.Good b) := hide (fun g hg' b hb => hg b (by rw [← hall]; exact List.mem_flatMap.2 ⟨g, hg', hb⟩))
  have HEND : Hid (∀ k, k ≤ gs.length → ¬ Ht.endT base (gs.take k) < Ht.lastOff base cs → Ht.all (gs.take k) = cs) := hide (fun k hk hlt => by
    rcases Classical.em (cs = []) with e | e
    · have e2 := hnil e
      rw [e2] at hk ⊢
      rw [e]
      match k, hk with
      | 0, _ => rfl
      | 1, _ => rfl
      | k + 2, hk => simp at hk
    · rcases Nat.lt_or_ge k gs.length with h1 | h1
      · obtain ⟨_, _, a2, _⟩ := HAT.out e k h1
        exact absurd a2 hlt
      · rw [List.take_of_length_le h1, hall])
  have HIN : Hid (∀ k, k ≤ gs.length → Ht.endT base (gs.take k) < Ht.lastOff base cs → cs ≠ [] ∧ k < gs.length) := hide (fun k hk hlt => by
    rcases Classical.em (cs = []) with e | e
    · have e2 := hnil e
      rw [e2] at hk hlt
      rw [e] at hlt
      match k, hk with
      | 0, _ => exact absurd hlt (Int.lt_irrefl _)
      | 1, _ => exact absurd hlt (Int.lt_irrefl _)
      | k + 2, hk => simp at hk
    · refine ⟨e, ?_⟩
      rcases Nat.lt_or_ge k gs.length with h1 | h1
      · exact h1
      · rw [List.take_of_length_le h1, hendT e] at hlt
        exact absurd hlt (Int.lt_irrefl _))
  have HGL : Hid (gs.length ≤ 101) := hide (by omega)
  have HAL : Hid (∀ k, (Ht.all (gs.take k)).length ≤ 100) := hide (fun k => by
    have e1 : Ht.all gs = Ht.all (gs.take k) ++ Ht.all (gs.drop k) := by unfold Ht.all; rw [← List.flatMap_append, List.take_append_drop]
    have := congrArg List.length e1
    rw [hall, List.length_append] at this
    omega)
  clear h hcont hti hall hgl hus hfl hus2 hnil hgs hendT e1 hs ht hn hso hch hg hl hsm
  generalize hE : Ht.lastOff base cs = E at *
  clear hE
  go_enter Tryz.func22, Tryz.ntmps22
  go_wp2_with (first
    | (go_at_call 20; refine HST.out.mono ?_; rintro e w1 ⟨rfl, hb⟩; have HB1 := hide hb; clear hb)
    | fail)
  go_loopw [4, 5] (fun o a wr => ∃ (k : Nat) (ps : List PBat), k ≤ gs.length ∧ a = .int .i64 (Ht.endT base (gs.take k)) ∧ BRow wr w.heap.size o ps ∧ ps.map (·.b) = Ht.all (gs.take k) ∧ (∀ b, o.ownBlock = some b → w.heap.size ≤ b) ∧ Below w.heap.size w wr) (fun _ a _ => (E - intOf a).toNat)
  case atStart => exact ⟨0, [], Nat.zero_le _, rfl, BRow.nil _ _, rfl, fun b hb => by simp [Value.ownBlock] at hb, HB1.out⟩
  case round =>
    obtain ⟨k, ps, hk, rfl, hrow, hps, hown, hb⟩ := hrel
    have HRW := hide hrow
    have HPS := hide hps
    have HOWN := hide hown
    have HBK := hide hb
    obtain ⟨Av, cv, rfl, hbt0⟩ := hrow.slice
    clear hrow hps hown hb hbt0
    by_cases hlt : Ht.endT base (gs.take k) < E
    · have dlt : decide (Ht.endT base (gs.take k) < E) = true := decide_eq_true hlt
      obtain ⟨hne, hkl⟩ := HIN.out k hk hlt
      have key : ∃ (bs : List Rc.Bat) (j : Nat) (hj : bs.length = j + 1), (∀ (W : World), Below w.heap.size w W → Calls Tryz.prog 24 #[.pointer (some ⟨H, 0, none⟩), .int .i64 (Ht.endT base (gs.take k)), .int .i64 1048576] W fun e w' => ∃ v, e = .returned (.tuple #[v, .nilIface]) ∧ (∃ ps, BRow w' W.heap.size v ps ∧ ps.map (·.b) = bs) ∧ Below W.heap.size W w') ∧ Rc.Good (bs[j]'(by omega)) ∧ Ht.endT base (gs.take (k + 1)) = (bs[j]'(by omega)).base + (bs[j]'(by omega)).recs.length ∧ Ht.all (gs.take (k + 1)) = Ht.all (gs.take k) ++ bs ∧ Ht.endT base (gs.take k) < Ht.endT base (gs.take (k + 1)) := by
        obtain ⟨hpos, a1, -, a3, a4⟩ := HAT.out hne k hkl
        have hl1 : gs[k].2.length - 1 + 1 = gs[k].2.length := by omega
        refine ⟨gs[k].2, gs[k].2.length - 1, hl1.symm, fun W hW => HRD.out W hW k hkl hpos _ a1, HGG.out gs[k] (List.getElem_mem hkl) _ (List.getElem_mem _), ?_, Ht.all_take gs k hkl, a4⟩
        rw [a3]
        exact Ht.lastOff_at gs[k].1 gs[k].2 (gs[k].2.length - 1) hl1
      obtain ⟨bs, j, hj, hr1, hgd, ha3, htk, hd⟩ := key
      rw [ha3] at hd
      have hal := HAL.out (k + 1)
      rw [htk, List.length_append] at hal
      have hal2 := congrArg List.length HPS.out
      rw [List.length_map] at hal2
      have hjl : j < bs.length := by omega
      have HR1 := hide hr1
      have HGB := hide hgd
      have HTK := hide htk
      have HA4 := hide ha3
      clear hr1 hgd ha3 htk HRD HAT HGG
      obtain ⟨at0, ha0⟩ : ∃ a, a = Ht.endT base (gs.take k) := ⟨_, rfl⟩
      rw [← ha0] at hlt dlt HR1 hd
      have HD := hide hd
      clear hd
      have HAT0 := hide ha0
      rw [← ha0]
      clear ha0
      have hpl : ps.length + bs.length ≤ 100 := by omega
      clear hal hal2
      have dj : decide (j + 1 = 0) = false := decide_eq_false (by omega)
      go_upto_region 7 with (first
        | (go_at_call 21; refine (HEN.out wr HBK.out).mono ?_; rintro e w2 ⟨rfl, hb⟩; have HB2 := hide hb; clear hb)
        | (go_at_call 24; refine (HR1.out w2 (HBK.out.trans (HB2.out.mono HBK.out.size))).mono ?_; rintro e w3 ⟨v, rfl, ⟨qs, hq, hqb⟩, hb⟩; have hql := congrArg List.length hqb; rw [List.length_map, hj] at hql; obtain ⟨A3, c3, rfl, hbt⟩ := hq.slice; rw [hqb] at hbt; rw [hql] at hq; have HBT := hide hbt; have HQ3 := hide hq; have HQB := hide hqb; have HB3 := hide (HB2.out.trans (hb.mono HB2.out.size)); have HS2 := hide HB2.out.size; have HS3 := hide hb.size; clear hb hq hqb hbt; rw [hql])
        | fail)
      have hB3 := HB3.out
      have t1 : w.heap.size ≤ w2.heap.size := Nat.le_trans HBK.out.size HB2.out.size
      have t1b : wr.heap.size ≤ w2.heap.size := HB2.out.size
      have t2 : ∀ k, (Value.slice Av ps.length cv).ownBlock = some k → k < w2.heap.size := fun k hk' => Nat.lt_of_lt_of_le (HRW.out.own_lt k hk') t1b
      have t3 : ps.length + qs.length ≤ 1000000 := by omega
      have t4 : w.heap.size ≤ w3.heap.size := Nat.le_trans t1 HS3.out
      have HR3 := hide (HRW.out.below HB3.out)
      have HW3 : Hid (Below w.heap.size w w3) := hide (HBK.out.trans (HB3.out.mono HBK.out.size))
      obtain ⟨bb, oo, rfl, hbb, Ax, cx, q0, q1, q2, -⟩ := HBT.out.at_ j hjl
      have HNX := hide (fun (W : World) => rnext_any (bs[j]'hjl) Ax cx (bs[j]'hjl).recs.length W rfl HGB.out.base0 (by have := HGB.out.base1; omega) (by have := HGB.out.n1; omega))
      have ha4 := HA4.out
      generalize bs[j]'hjl = bl at *
      unfold batV at HNX
      generalize bl.base = ba at *
      generalize bl.epoch = ep at *
      generalize bl.recs.length = m at *
      clear HA4 HGB
      have hbo : some bb ≠ (Value.slice Av ps.length cv).ownBlock := fun e => by
        have h1 := t2 bb e.symm
        have h2 := HQ3.out.addr_lo
        omega
      have hjw : IntKind.i64.wrap (((j + 1 : Nat) : Int) - 1) = (j : Int) := by rw [IntKind.wrap_i64]; omega
      go_wp2_with (first
        | (at_builtin; refine wpList_appB (w := w3) rfl (.tmp 27) (.tmp 28) rfl w.heap.size w2.heap.size _ (.slice (some ⟨bb, oo, none⟩) (j + 1) c3) ps qs rfl rfl HR3.out HQ3.out t1 t2 t3 t4 ?_; intro v4 w4 hr4 hg4; have k0 := hg4.cell q0 hbo; have k1 := hg4.cell q1 hbo; have k2 := hg4.cell q2 hbo; have HR4 := hide hr4; have HB4 := hide (HW3.out.grown hg4 t4 HOWN.out); clear hr4 hg4)
        | (go_at_call 18; refine (HNX.out w4).mono ?_; rintro e w5 ⟨rfl, hb⟩; have HB5 := hide hb; clear hb)
        | fail)
      refine ⟨⟨k + 1, ps ++ qs, by omega, by rw [ha4], HR4.out.below HB5.out, ?_, HR4.out.own_lo, HB4.out.trans (HB5.out.mono HB4.out.size)⟩, ?_⟩
      · rw [List.map_append, HPS.out, HQB.out, HTK.out]
      · have := HD.out
        simp only [intOf]
        omega
    · have dlt : decide (Ht.endT base (gs.take k) < E) = false := decide_eq_false hlt
      have hall := HEND.out k hk (by omega)
      go_wp2_with (first
        | (go_at_call 21; refine (HEN.out wr HBK.out).mono ?_; rintro e w2 ⟨rfl, hb⟩; have HB2 := hide hb; clear hb)
        | fail)
      go_ret2
      exact ⟨_, rfl, ⟨ps, HRW.out.below HB2.out, HPS.out.trans hall⟩, HBK.out.trans (HB2.out.mono HBK.out.size)⟩
end Go.Proofs.YtcmgppacipdnaaaGreatDoor
