/-
  StoreCopies, walked.
  StoreCopies, walked: a copy beside its store.
  StoreCopies, proved.
-/
import Derived.Test.YthlclknbehfloaaDoorU5
import Derived.Test.YthlclknbehfloaaDoorT7
import Derived.Test.YthlclknbehfloaaDoorT6
namespace Go.Proofs.YthlclknbehfloaaDoor.St

theorem ask_freeK {α : Type} (s : S) (h : s.script = []) (z : α) (f : S → (α × Option Nat) × S) : s.ask z f = f s.took := by
  have ho : s.out = 0 := by simp [S.out, h]
  simp [S.ask, ho]
/-- Behind so many of the outcomes that were laid. -/
structure AtK (b : List UInt8) (outs : List Int) (i : Nat) (s : S) : Prop where
  script : s.script = outs.drop i
  failed : s.failed = badO outs i
  obj : s.objs [97] = some b
  none : s.objs [122] = none
  ups : ∀ x, s.ups x ≠ .none ↔ x = 1
theorem k_put (b : List UInt8) : (S.new.put [97] b).1.2 = none ∧ (S.new.put [97] b).2.script = [] ∧ (S.new.put [97] b).2.objs = upd (fun _ => none) [97] (some b) ∧ (S.new.put [97] b).2.ups = (fun _ => none) ∧ (S.new.put [97] b).2.last = 0 ∧ (S.new.put [97] b).2.failed = 0 := by
  have hv : Dk.valid [97] = true := by decide
  unfold S.put
  rw [ask_freeK _ rfl]
  unfold S.putF
  rw [if_pos hv]
  exact ⟨rfl, rfl, rfl, rfl, rfl, by simp [S.took, S.new, S.out]⟩
theorem k_start (b : List UInt8) (s : S) (h1 : s.script = []) (h2 : s.objs = upd (fun _ => none) [97] (some b)) (h3 : s.ups = fun _ => none) (h4 : s.last = 0) (h5 : s.failed = 0) (outs : List Int) : (s.start [117]).1 = (1, none) ∧ AtK b outs 0 ((s.start [117]).2.scripted outs) ∧ (s.start [117]).2.script = [] := by
  have hv : Dk.valid [117] = true := by decide
  have ho : s.out = 0 := by simp [S.out, h1]
  unfold S.start
  rw [ask_freeK _ h1]
  unfold S.startF
  rw [if_pos hv]
  have hl : s.took.last = 0 := h4
  simp only [hl]
  refine ⟨rfl, ⟨by simp [S.scripted, S.took, h1], by simp [S.scripted, S.took, ho, h5, badO], ?_, ?_, fun x => ?_⟩, by simp [S.took, h1]⟩
  · show s.took.objs [97] = some b
    have e : s.took.objs = s.objs := rfl
    rw [e, h2]; simp [upd]
  · show s.took.objs [122] = none
    have e : s.took.objs = s.objs := rfl
    rw [e, h2]; simp [upd]
  · show upd s.took.ups (0 + 1) _ x ≠ none ↔ x = 1
    have e : s.took.ups = s.ups := rfl
    rw [e, h3]
    by_cases hx : x = 1
    · simp [upd, hx]
    · simp [upd, hx]
theorem AtK.head {b : List UInt8} {outs : List Int} {i : Nat} {s : S} (h : AtK b outs i s) (_hi : i < outs.length) : (s.head [97]).1.2 = (if outs.getD i 0 = 1 ∨ outs.getD i 0 = 2 then some 10 else .none) ∧ AtK b outs (i + 1) (s.head [97]).2 := by
  have ho : s.out = outs.getD i 0 := by unfold S.out; rw [h.script]; simp [List.getD, List.head?_drop]
  have hob : s.took.objs [97] = some b := h.obj
  have ht : AtK b outs (i + 1) s.took := ⟨by simp [S.took, h.script], by
    simp only [S.took, h.failed, badO, ho]
    split <;> simp, h.obj, h.none, h.ups⟩
  unfold S.head S.ask
  rw [ho]
  generalize outs.getD i 0 = o at *
  by_cases h1 : o = 1
  · rw [if_pos h1]; exact ⟨by simp [h1], ht⟩
  · rw [if_neg h1]
    by_cases h2 : o = 2
    · rw [if_pos h2]; simp only [S.headF, hob]; exact ⟨by simp [h2], ht⟩
    · rw [if_neg h2]; simp only [S.headF, hob]; exact ⟨by simp [h1, h2], ht⟩
end Go.Proofs.YthlclknbehfloaaDoor.St
namespace Go.Proofs.YthlclknbehfloaaDoor
open Go.RowKit Go.Maps

theorem StS.clone {w0 w : World} {S D : Nat → Prop} {sb n : Nat} {s : St.S} (h : StS w0 S D sb s n w) (hn : n ≤ 1000000) (hl : s.script.length ≤ 1000000) :
    Calls Tryd.prog 13 #[.pointer (some ⟨sb, 0, none⟩)] w fun e w' => ∃ cb S', e = .returned (.pointer (some ⟨cb, 0, none⟩)) ∧ StS w0 S' D cb s n w' ∧ (∀ k, S' k → w.heap.size ≤ k) ∧ Below w.heap.size w w' := by
  obtain ⟨ob, ub, sv, ov, pb, pv, hL⟩ := h.st
  refine (stClone_any hL hn hl).mono fun e w' ⟨cb, S', he, h1, h2, h3⟩ => ⟨cb, S', he, ⟨h1, fun k hk => ?_, h.below.trans (h3.mono h.below.size), h.calls, h.failed⟩, h2, h3⟩
  rcases hk with hk | hk
  · have := h2 k hk; have := h.below.size; omega
  · exact h.lo k (.inr hk)
/-- Another store's blocks change alone. -/
theorem StS.beside {w0 w w' : World} {S D T : Nat → Prop} {sb n : Nat} {s : St.S} (h : StS w0 S D sb s n w) (hc : Chg T w w') (hT : ∀ k, T k → ¬ S k ∧ ¬ D k) (hlo : ∀ k, T k → w0.heap.size ≤ k) : StS w0 S D sb s n w' :=
  ⟨h.st.kept hc.size fun k hk hl => hc.block k hl fun ht => hk.elim (hT k ht).1 (hT k ht).2, h.lo, h.below.trans (hc.below h.below.size hlo), h.calls, h.failed⟩
end Go.Proofs.YthlclknbehfloaaDoor

namespace Go.Proofs.YthlclknbehfloaaDoor
open Go.RowKit Go.Maps

/-- The first byte of a row of the call's own. -/
theorem own_first {w : World} {base n : Nat} {v : Value} {b : List UInt8} (h : Own w base v b) (hn : b.length = n) (h0 : 0 < n) : ∃ g c x, v = .slice (some ⟨g, 0, none⟩) n c ∧ base ≤ g ∧ g < w.heap.size ∧ w.cell? ⟨g, 0, none⟩ = some (.int .u8 x) ∧ w.frozen? ⟨g, 0, none⟩ = false ∧ Arg w (some ⟨g, 0, none⟩) c b := by
  subst hn
  obtain ⟨A, c, e, ha⟩ := h.arg
  rcases h.2 with ⟨e2, h2⟩ | ⟨g, cap, cur, e2, hg, hh, _⟩
  · omega
  · rw [e] at e2; injection e2 with e2 _ e3; subst e2 e3
    refine ⟨g, c, B (b.getD 0 0), e, hg, (Array.getElem?_eq_some_iff.1 hh).1, ?_, box_free hh 0, ha⟩
    rcases ha.reads with h1 | ⟨g', off, e4, _, hc⟩
    · rw [h1] at h0; simp at h0
    · injection e4 with e4; injection e4 with e5 e6 _; subst e5 e6
      have := hc 0 h0
      rwa [Nat.zero_add] at this
theorem below_drew_k {w w' : World} (h : ∃ k, w' = w.drewN k) : Below w.heap.size w w' := by
  obtain ⟨k, rfl⟩ := h; exact below_drewN (Below.refl _ _) k

set_option maxRecDepth 100000 in
set_option maxHeartbeats 2000000 in
theorem copies_walk (w : World) (p : Nat → Addr) (hs : Sents w p) (htb : Tabs w) (A : Option Addr) (c n : Nat) (b : List UInt8) (ha : Arg w A c b) (hn : b.length = n) (A2 : Option Addr) (cap m : Nat) (zs : List Int) (hz : IntsArg w A2 cap zs) (hm : zs.length = m) :
    Calls Tryd.prog 3 #[.slice A n c, .slice A2 m cap] w fun e w' => e = .returned (.bool true) ∧ Below w.heap.size w w' := by
  have HS := hide hs
  have HTB := hide htb
  have HA := hide ha
  have HN := hide hn
  have HZ := hide hz
  have HM := hide hm
  have HF := hide (stFirst_any w p hs)
  have hlA : ∀ x o, A = some ⟨x, o, none⟩ → b ≠ [] → x < w.heap.size := fun x o e hb => by
    rcases ha.reads with h1 | ⟨g, off, e1, hlt, -⟩
    · exact absurd h1 hb
    · rw [e1] at e; injection e with e; injection e with e _ _; subst e; exact hlt
  have HLA := hide hlA
  clear hs htb ha hn hz hm hlA
  by_cases h50 : n ≤ 50
  · by_cases h10 : m ≤ 10
    · by_cases hn0 : n = 0
      · subst hn0
        go_enter Tryd.func3, Tryd.ntmps3
        go_wp2_with (first
          | (go_at_call 8; refine HF.out.mono ?_; rintro e w1 ⟨rfl, hb⟩; have HB1 := hide hb; clear hb)
          | fail)
        go_ret
        exact ⟨rfl, HB1.out⟩
      · have hnc : (n : Int) ≤ 50 := by omega
        have hmc : (m : Int) ≤ 10 := by omega
        have hnz : ((n : Int) == 0) = false := by simpa using hn0
        have HP := hide (St.k_put b)
        have HA0 : Hid (∀ W : World, Arg W none 0 []) := hide (fun W => ⟨by simp, by omega, fun _ => rfl, .inl rfl⟩)
        have hpos : 0 < n := by omega
        go_enter Tryd.func3, Tryd.ntmps3
        go_wp2_with (first
          | (go_at_call 8; refine HF.out.mono ?_; rintro e w1 ⟨rfl, hb⟩; have HB1 := hide hb; clear hb)
          | (go_at_call 9; refine (stNew_any w w1 HB1.out).mono ?_; rintro e w2 ⟨sb, S, rfl, h, -, -⟩; have H2 := hide h; clear h)
          | (go_at_call 10; refine (StS.put H2.out p HS.out (by omega) [97] (by simp) A c n b (HA.out.below H2.out.below (Nat.le_refl _)) HN.out (by omega) (fun x o e hb hx => by have := HLA.out x o e hb; have := H2.out.lo x (.inl hx); omega)).mono ?_; rintro e w3 ⟨rfl, S3, D3, h, -⟩; rw [HP.out.1]; have HQ := hide HP.out.2; clear HP; generalize (St.S.new.put [97] b).2 = s1 at h HQ; have H3 := hide h; clear h H2; unfold errR)
          | (go_at_call 11; have hk := fun outs => St.k_start b s1 HQ.out.1 HQ.out.2.1 HQ.out.2.2.1 HQ.out.2.2.2.1 HQ.out.2.2.2.2 outs; refine (StS.start H3.out p HS.out (by omega) [117] (by simp)).mono ?_; rintro e w4 ⟨rfl, S4, D4, h, -⟩; rw [(hk []).1]; have HK := hide (hk zs).2.1; have HSC := hide (hk []).2.2; clear hk; generalize (s1.start [117]).2 = s2 at h HK HSC; have H4 := hide h; clear h H3 HQ; unfold errR)
          | (go_at_call 12; refine (StS.script H4.out A2 cap m zs (HZ.out.below H4.out.below (Nat.le_refl _)) HM.out (by rw [HSC.out]; simp; omega)).mono ?_; rintro e w5 ⟨rfl, S5, h, -⟩; generalize s2.scripted zs = s5 at h HK; have H5 := hide h; clear h H4)
          | (go_at_call 13; refine (H5.out.clone (by omega) (by rw [HK.out.script]; simp [HM.out]; omega)).mono ?_; rintro e w6 ⟨cb, T, rfl, h, hT, hb⟩; have HC := hide h; have HT := hide hT; have H6 := hide (H5.out.grow hb); have HBS := hide hb.size; clear h hT hb)
          | fail)
        have hSB : ∀ k, S5 k ∨ D4 k → k < w5.heap.size := H5.out.lt
        have HSB := hide hSB
        have HB0 : Hid (w.heap.size ≤ w5.heap.size) := hide H5.out.below.size
        clear hSB
        generalize w5.heap.size = B at *
        have hw3 : IntKind.i64.wrap ((m : Int) + 3) = (m : Int) + 3 := IntWalk.i64_in _ (by omega)
        go_loopw [10] (fun i wr => ∃ (j : Nat) (T Dc : Nat → Prop) (sc : St.S), j ≤ m + 3 ∧ i = .int .i64 j ∧ StS w T Dc cb sc (2 + j) wr ∧ (∀ k, T k → B ≤ k) ∧ StS w S5 D4 sb s5 2 wr ∧ B ≤ wr.heap.size) (fun i _ => m + 3 - (intOf i).toNat)
        case atStart => exact ⟨0, T, D4, s5, by omega, rfl, HC.out, HT.out, H6.out, HBS.out⟩
        case round =>
          obtain ⟨j, T7, D7, sc, hj, rfl, hc7, hT7, ho7, hBr⟩ := hrel
          have HBr := hide hBr
          clear hBr
          have HC7 := hide hc7
          have HT7 := hide hT7
          have HO7 := hide ho7
          clear hc7 hT7 ho7
          have HNT : Hid (∀ k, T7 k → ¬ S5 k ∧ ¬ D4 k) := hide (fun k hk => ⟨fun h => by have := HSB.out k (.inl h); have := HT7.out k hk; omega, fun h => by have := HSB.out k (.inr h); have := HT7.out k hk; omega⟩)
          have HT0 : Hid (∀ k, T7 k → w.heap.size ≤ k) := hide (fun k hk => by have := HT7.out k hk; have := HB0.out; omega)
          by_cases hlt : j < m + 3
          · have hltc : (j : Int) < (m : Int) + 3 := by omega
            go_wp2_with (first
              | (go_at_call 10; refine (StS.put HC7.out p HS.out (by omega) [122] (by simp) none 0 0 [] (HA0.out _) rfl (by omega) (fun x o e => by cases e)).mono ?_; rintro e w8 ⟨rfl, T8, D8, h, hg⟩; have H8 := hide h; have HO8 := hide (HO7.out.beside hg.chg HNT.out HT0.out); have HT8 : Hid (∀ k, T8 k → B ≤ k) := hide (fun k hk => by (rcases hg.s k hk with h1 | h1; exact HT7.out k h1; exact Nat.le_trans HBr.out h1.1)); have HB8 := hide (Nat.le_trans HBr.out hg.chg.size); clear h hg; generalize errR p _ = ev)
              | fail)
            exact ⟨⟨j + 1, T8, D8, _, by omega, by simp, H8.out, HT8.out, HO8.out, HB8.out⟩, by simp [intOf]; omega⟩
          · obtain rfl : j = m + 3 := by omega
            have hgec : ¬ (((m + 3 : Nat) : Int) < (m : Int) + 3) := by omega
            have hobj := HK.out.obj
            have hobz := HK.out.none
            have HOB := hide hobj
            have HOZ := hide hobz
            clear hobj hobz
            go_wp2_with (first
              | (go_at_call 14; refine (HC7.out.abort p HS.out (by omega) 1 (by omega)).mono ?_; rintro e w8 ⟨rfl, T8, D8, h, hg⟩; have H8 := hide (HO7.out.beside hg.chg HNT.out HT0.out); clear h hg; generalize errR p _ = eva)
              | (have := H10.out; clear this; go_at_call 15; refine (StS.bytes H10.out [122] (by simp)).mono ?_; rintro e w11 ⟨v, rfl, ho, hb⟩; rw [HOZ.out] at ho ⊢; have H11 := hide (H10.out.grow hb); have HY11 := hide (HY.out.below hb (Nat.le_refl _)); obtain ⟨A11, c11, rfl, -⟩ := own_n (n := 0) ho rfl; clear ho hb H10; simp only [Option.isSome_none])
              | (have := HG9.out; clear this; go_at_call 15; refine (StS.bytes (H9.out.setB g9 0 _ HG9.out.1 HG9.out.2.1 HG9.out.2.2) [97] (by simp)).mono ?_; rintro e w10 ⟨v, rfl, ho, hb⟩; rw [HOB.out] at ho ⊢; have H10 := hide ((H9.out.setB g9 0 _ HG9.out.1 HG9.out.2.1 HG9.out.2.2).grow hb); obtain ⟨gy, cy, xy, rfl, hgy, hgl, -, -, hay⟩ := own_first ho HN.out hpos; have HY := hide hay; have HGY : Hid (¬ S5 gy) := hide (fun h => by have := H9.out.lt gy (.inl h); simp at hgy; omega); clear ho hb hay hgy hgl H9; simp only [Option.isSome_some])
              | (go_at_call 15; refine (StS.bytes H8.out [97] (by simp)).mono ?_; rintro e w9 ⟨v, rfl, ho, hb⟩; rw [HOB.out] at ho ⊢; have H9 := hide (H8.out.grow hb); obtain ⟨g9, c9, x9, rfl, hg9, hgl9, hx9, hf9, -⟩ := own_first ho HN.out hpos; have HG9 : Hid (¬ S5 g9 ∧ ¬ D4 g9 ∧ w.heap.size ≤ g9) := hide ⟨fun h => by have := H8.out.lt g9 (.inl h); omega, fun h => by have := H8.out.lt g9 (.inr h); omega, by have := H8.out.below.size; omega⟩; clear ho hb H8 hg9 hgl9; simp only [Option.isSome_some])
              | fail)
            go_loopw [17, 18] (fun bad i wq => ∃ (j : Nat) (si : St.S), j ≤ m ∧ bad = .int .i64 (St.badO zs j) ∧ i = .int .i64 j ∧ St.AtK b zs j si ∧ StS w S5 D4 sb si (2 + j) wq ∧ Arg wq (some ⟨gy, 0, none⟩) cy b) (fun _ i _ => m - (intOf i).toNat)
            case atStart => exact ⟨0, s5, Nat.zero_le _, rfl, rfl, HK.out, H11.out, HY11.out⟩
            case round =>
              obtain ⟨j, si, hj, rfl, rfl, hat, hsi, hya⟩ := hrel
              have HAT := hide hat
              have HSI := hide hsi
              have HYA := hide hya
              clear hat hsi hya
              by_cases hlt2 : j < m
              · have hhd := HAT.out.head (by have := HM.out; omega)
                have hbad : (St.badO zs (j + 1) : Int) = St.badO zs j + (if zs.getD j 0 = 1 ∨ zs.getD j 0 = 2 then 1 else 0) := by
                  simp only [St.badO]; split <;> simp
                have HBAD := hide hbad
                have HHD := hide hhd
                clear hbad hhd
                have hbl := St.badO_le zs j
                have hwb : IntKind.i64.wrap ((St.badO zs j : Int) + 1) = (St.badO zs j : Int) + 1 := IntWalk.i64_in _ (by omega)
                obtain ⟨b0, o0, hA2, hcw⟩ := HZ.out.get j (by have := HM.out; omega)
                have HA9 := hide hA2
                subst hA2
                have HCELL : Hid (∀ W, Below w.heap.size w W → W.cell? ⟨b0, o0 + j, none⟩ = some (.int .i64 (zs.getD j 0))) := hide (fun W hb => (hb.cell (p := ⟨b0, o0 + j, none⟩) (World.block_lt_of_cell? _ _ hcw)).trans hcw)
                clear hcw
                generalize zs.getD j 0 = o at *
                generalize hbo : St.badO zs j = bo at *
                by_cases e1 : o = 1 ∨ o = 2
                · have hr : (si.head [97]).1.2 = some 10 := by rw [HHD.out.1, if_pos e1]
                  have HR := hide hr
                  have HE : Hid ((St.badO zs (j + 1) : Int) = (bo : Int) + 1) := hide (by rw [HBAD.out, if_pos e1])
                  clear hr
                  rcases e1 with e1 | e1
                  · subst e1
                    have k10 := eql_nil (p 10)
                    unfold errV at k10
                    go_wp2_with (first
                      | (go_at_call 16; refine (StS.head HSI.out p HS.out (by omega) HTB.out [97] (by simp)).mono ?_; rintro e w12 ⟨rfl, h, hc⟩; rw [HR.out]; have H12 := hide h; have HY12 := hide (HYA.out.chg hc (fun x o e _ => by injection e with e; injection e with e _ _; subst e; exact HGY.out)); have hcell := HCELL.out _ h.below; generalize (((si.head [97]).1.1.length : Nat) : Int) = ln; generalize U (Crc.sum (si.head [97]).1.1) = sm; clear h hc; unfold errR)
                      | (go_at_call 17; refine (is_sent w12 p (HS.out.below H12.out.below) 10 (by omega) 111).mono ?_; rintro e w13 ⟨rfl, hb⟩; have H13 := hide (H12.out.grow hb); have HY13 := hide (HY12.out.below hb (Nat.le_refl _)); clear hb)
                      | fail)
                    exact ⟨⟨j + 1, _, by omega, by rw [HE.out], by simp, HHD.out.2, H13.out, HY13.out⟩, by simp [intOf]; omega⟩
                  · subst e1
                    have k10 := eql_nil (p 10)
                    unfold errV at k10
                    go_wp2_with (first
                      | (go_at_call 16; refine (StS.head HSI.out p HS.out (by omega) HTB.out [97] (by simp)).mono ?_; rintro e w12 ⟨rfl, h, hc⟩; rw [HR.out]; have H12 := hide h; have HY12 := hide (HYA.out.chg hc (fun x o e _ => by injection e with e; injection e with e _ _; subst e; exact HGY.out)); have hcell := HCELL.out _ h.below; generalize (((si.head [97]).1.1.length : Nat) : Int) = ln; generalize U (Crc.sum (si.head [97]).1.1) = sm; clear h hc; unfold errR)
                      | (go_at_call 17; refine (is_sent w12 p (HS.out.below H12.out.below) 10 (by omega) 111).mono ?_; rintro e w13 ⟨rfl, hb⟩; have H13 := hide (H12.out.grow hb); have HY13 := hide (HY12.out.below hb (Nat.le_refl _)); clear hb)
                      | fail)
                    exact ⟨⟨j + 1, _, by omega, by rw [HE.out], by simp, HHD.out.2, H13.out, HY13.out⟩, by simp [intOf]; omega⟩
                · have hr : (si.head [97]).1.2 = none := by rw [HHD.out.1, if_neg e1]
                  have HR := hide hr
                  have HE : Hid ((St.badO zs (j + 1) : Int) = (bo : Int)) := hide (by rw [HBAD.out, if_neg e1]; simp)
                  have b1 : (o == 1) = false := by simp; omega
                  have b2 : (o == 2) = false := by simp; omega
                  clear hr e1
                  go_wp2_with (first
                    | (go_at_call 16; refine (StS.head HSI.out p HS.out (by omega) HTB.out [97] (by simp)).mono ?_; rintro e w12 ⟨rfl, h, hc⟩; rw [HR.out]; have H12 := hide h; have HY12 := hide (HYA.out.chg hc (fun x o e _ => by injection e with e; injection e with e _ _; subst e; exact HGY.out)); have hcell := HCELL.out _ h.below; generalize (((si.head [97]).1.1.length : Nat) : Int) = ln; generalize U (Crc.sum (si.head [97]).1.1) = sm; clear h hc; unfold errR)
                    | fail)
                  exact ⟨⟨j + 1, _, by omega, by rw [HE.out], by simp, HHD.out.2, H12.out, HY12.out⟩, by simp [intOf]; omega⟩
              · obtain rfl : j = m := by omega
                have HFA := hide HAT.out.failed
                have HL1 : Hid (∀ l, St.ListsI si.ups l → l = [1]) := hide (fun l hl => St.lists_one hl 1 ((HAT.out.ups 1).2 rfl) fun x hx => Classical.byContradiction fun h => hx ((HAT.out.ups x).1 h))
                generalize St.badO zs j = bo at *
                go_wp2_with (first
                  | (go_at_call 18; refine (sameBytes_any (some ⟨gy, 0, none⟩) A cy c n n b b _ HN.out HN.out (by omega) (by omega) HYA.out.reads (HA.out.below HSI.out.below (Nat.le_refl _)).reads).mono ?_; rintro e w13 ⟨rfl, hw⟩; rw [show decide (b = b) = true from by simp]; have H13 := hide (HSI.out.grow (below_drew_k hw)); clear hw)
                  | (go_at_call 20; refine (H13.out.openOf (by omega)).mono ?_; rintro e w14 ⟨v, l, rfl, hl, ho, hb⟩; have H14 := hide (H13.out.grow hb); have hli : l = [1] := HL1.out l hl; subst hli; obtain ⟨A14, c14, rfl, hi⟩ := own_z (n := 1) ho rfl (by simp); have HI := hide hi; clear hl ho hb hi)
                  | (go_at_call 19; refine (sameInts_any A14 (some ⟨w14.heap.size, 0, none⟩) c14 1 1 1 [1] [1] _ rfl rfl (by omega) (by omega) (HI.out.below (balloc (Below.refl _ _) _) (Nat.le_refl _)) (IntsArg.made w14 [1] _ _ 1 rfl rfl (by omega) (by simp))).mono ?_; rintro e w15 ⟨rfl, hw⟩; rw [show decide (([1] : List Int) = [1]) = true from by simp]; have H15 := hide ((H14.out.grow (balloc (Below.refl _ _) (.cells #[.int .i64 1] 3))).grow (below_drew_k hw)); clear hw)
                  | (go_at_call 21; refine H15.out.failedOf.mono ?_; rintro e w16 ⟨rfl, rfl⟩; rw [HFA.out])
                  | fail)
                go_ret
                exact ⟨rfl, H15.out.below⟩
    · have hmc : (10 : Int) < (m : Int) := by omega
      go_enter Tryd.func3, Tryd.ntmps3
      go_wp2_with (first
        | (go_at_call 8; refine HF.out.mono ?_; rintro e w1 ⟨rfl, hb⟩; have HB1 := hide hb; clear hb)
        | fail)
      go_ret
      exact ⟨rfl, HB1.out⟩
  · have hnc : (50 : Int) < (n : Int) := by omega
    go_enter Tryd.func3, Tryd.ntmps3
    go_wp2_with (first
      | (go_at_call 8; refine HF.out.mono ?_; rintro e w1 ⟨rfl, hb⟩; have HB1 := hide hb; clear hb)
      | fail)
    go_ret
    exact ⟨rfl, HB1.out⟩
end Go.Proofs.YthlclknbehfloaaDoor

namespace Go.Proofs.YthlclknbehfloaaDoor.StoreCopiesLaw
open Go.Proofs.YthlclknbehfloaaDoor
open Go.RowKit Go.ChangeShapes Go.WideShapes Go.ChangeAt

set_option maxRecDepth 100000 in
theorem lifted (os : Os) (started : os.Started) (H : Type) (enc : TypeId × Value → H) :
    ReturnsInHanded {} Tryd.checked os 3 .any (fun w args => (Rows.storeCopiesSpec.pre enc Tryd.prog Tryd.f3 [] false w args ∧ laidMetH Tryd.prog laidAll w) ∧ sizedMet enc Tryd.prog Tryd.f3 (OpenSpec.ofChange Rows.storeCopiesSpec) false w args)
      (Rows.storeCopiesSpec.post enc Tryd.prog Tryd.f3 false true false false) := by
  refine returnsInHanded_of_change_and (C := Tryd.checked) (X := fun w _ => laidMetH Tryd.prog laidAll w) (fun _ _ _ hh h => h.of_heap hh) own started (by kernel_rfl) Tryd.func3
    (ChangeSpec.witness_shaped (enc := enc) (C := Tryd.checked) (os := os) (X := fun w _ => laidMetH Tryd.prog laidAll w) false (World.doorLaid Tryd.prog 400 os) #[.slice none 0 0, .slice none 0 0] 8 rfl (World.shaped_of_RefB (by kernel_rfl) (by kernel_rfl)) (by kernel_rfl) (by kernel_rfl) (by kernel_rfl) (door_met_all os _)) ?_
  intro W base args ds gs before hval0 hW _ _ hL _
  have hval : ∀ (j : Nat) t v, Tryd.f3.params[j]? = some t → args[j]? = some v → Value.okWide Tryd.prog W .any base t v := hval0
  have hW' := hW
  obtain ⟨p, q, hA0, hV, rfl, hfz, hnd⟩ := hW
  have hA : DataW.TrodAll enc Tryd.prog W 0 (fun _ => true) true Tryd.f3.params.toList args.toList ds p := hA0
  rw [Tryd.params3] at hA hval
  obtain ⟨v0, vs0, d0, ds0, p0, q0, hargs, rfl, rfl, h0, r0⟩ := trodAll_cons hA
  obtain ⟨v1, vs1, d1, ds1, p1, q1, rfl, rfl, rfl, h1, r1⟩ := trodAll_cons r0
  obtain ⟨rfl, rfl, rfl⟩ := trodAll_nil r1
  obtain rfl : args = #[v0, v1] := by cases args; simp_all
  obtain ⟨rfl, rfl⟩ := trodVars_none hV
  obtain ⟨a0, len0, cap0, rfl⟩ := okWide_slice Tryd.underlying22 (hval 0 22 v0 rfl rfl)
  have k0 := h0
  have lt0 : ∀ x ∈ p0, x.block < W.heap.size := by obtain ⟨m, hm⟩ := k0; exact DataW.trod_lt m _ _ _ hm
  obtain ⟨l0, rfl, w0⟩ := arg_of h0
  obtain ⟨a1, len1, cap1, rfl⟩ := okWide_slice Tryd.underlying23 (hval 1 23 v1 rfl rfl)
  have k1 := h1
  have lt1 : ∀ x ∈ p1, x.block < W.heap.size := by obtain ⟨m, hm⟩ := k1; exact DataW.trod_lt m _ _ _ hm
  obtain ⟨zs1, rfl, le1, mx1, w1, z1⟩ := ints_of h1
  clear hA0 hval0
  have htab := tabs_of_all hL
  obtain ⟨ps, hsent⟩ := sents_of_laid hL
  have hsz := htab.size
  refine (copies_walk W ps hsent htab a0 cap0 _ l0 w0 rfl a1 cap1 _ zs1 (intsArg_of le1 mx1 w1 z1 (intsCap_of h1)) rfl).mono fun e W' ⟨he, bel⟩ => ?_
  subst he
  exact ⟨_, rfl, _, _, _, [], _, [], hW', trodAll_mk1 (shut_bool Tryd.underlying4 _), (trodAll_cons_mk (Below.trod laidOut (by kernel_rfl) (of_decide_eq_true (by kernel_rfl)) k0 bel lt0) (trodAll_cons_mk (Below.trod laidOut (by kernel_rfl) (of_decide_eq_true (by kernel_rfl)) k1 bel lt1) trodAll_mk0)), rfl, bel.frame _, fun h => by cases h⟩

theorem row : Rows.StoreCopiesSaid :=
  OpenClaim.holds_of_wide 3 Tryd.f3 rfl rfl rfl rfl rfl rfl rfl ⟨rfl, rfl, rfl, rfl, rfl⟩ rfl rfl rfl rfl rfl (by kernel_rfl) Tryd.func3 (by kernel_rfl)
    (of_decide_eq_true (by kernel_rfl)) (by unfold Func.isWrapper; first | (rw [if_pos (by decide +kernel)]; kernel_rfl) | (rw [if_neg (by decide +kernel)]; exact ⟨rfl, rfl⟩))
    (fun os started H enc _ => lifted os started H enc)

theorem proved : Rows.StoreCopiesCardSaid :=
  Claim7.holds_tied_plain_at .later [] _ true _ true
    row (fun _ h => by cases h) (by kernel_rfl) (fun _ h => by cases h) storeCopies_row_tie rfl ⟨rfl, rfl⟩ (by kernel_rfl) rfl
    (fun f fn hf hfn => by
      obtain rfl : f = 3 := Option.some.inj ((show Tryd.prog.funcNamed "cordwood/cordwoodlaw11.StoreCopies" = some 3 by kernel_rfl).symm.trans hf) |>.symm
      obtain rfl : fn = Tryd.f3 := (Option.some.inj (Tryd.func3.symm.trans hfn)).symm
      exact ⟨by kernel_rfl, fun j t ht => by
        rw [Tryd.params3] at ht
        have hm : t ∈ [22, 23] := by simpa using Array.mem_of_getElem? ht
        have hall : ([22, 23].all fun u => !Tryd.prog.wantsStandIn u) = true := by kernel_rfl
        exact (show Tryd.prog.wantsStandIn t = false by simpa using List.all_eq_true.1 hall t hm)⟩)
    (by kernel_rfl)
end Go.Proofs.YthlclknbehfloaaDoor.StoreCopiesLaw
