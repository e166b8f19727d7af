/-
  A log of segments: Append, where all goes well.
-/
import Derived.Test.YtcmgppacipdnaaaGreatDoorQHtD
import Derived.LoopTactic
import Derived.Deep.LoopGhost
namespace Go.Proofs.YtcmgppacipdnaaaGreatDoor
open Go.RowKit Go.Maps

/-- What stands ahead of the last segment's own Append. -/
structure HtMid (w0 w W1 : World) (U : Nat → Prop) (n Bd H : Nat) (sz ev room used : Int) (vb : Value) (bats : List (Int × Int)) (b : Rc.Bat) (gs : List Ht.Gr) (d : Dk.St) (names : Dk.Dir) (qs : List HQ) (q : HQ) (S C : Nat → Prop) (vs : Value) (wx : World) : Prop where
  log : HtL w0 S n Bd d H C sz ev vs vb (qs ++ [q]) bats wx
  g : Ht.G d room used ev names (qs ++ [q])
  fol : Sg.follows q.s.edges b = true
  len : q.s.edges.length ≤ 90000
  pos : (Sg.last q.s.edges).pos ≤ 900000000
  gs : qs.map (fun q => (q.base, q.bs)) ++ [(q.base, q.bs ++ [b])] = gs
  chg : Chg U W1 wx
  up : ∀ k, htU S C (qs ++ [q]) k → Up U W1 wx k

section
variable {w0 w : World} {S C : Nat → Prop} {n Bd H : Nat} {d : Dk.St} {sz ev room used : Int} {vs vb : Value} {qs0 qs : List HQ} {q : HQ} {bats : List (Int × Int)} {names : Dk.Dir}
set_option maxRecDepth 100000 in
set_option maxHeartbeats 4000000 in
theorem htAppend_good (h : HtL w0 S n Bd d H C sz ev vs vb (qs0 ++ [q]) bats w) (p : Nat → Addr) (hs : SentsG w0 p) (ht : Tabs w0) (hpt : PowTab w0) (hn : n ≤ 970) (hlen : qs0.length ≤ 9000) (hbl : bats.length ≤ 9000) (g : Ht.G d room used ev names (qs0 ++ [q])) (h1 : 1 ≤ ev ∧ ev ≤ 1048576)
    (b : Rc.Bat) (A : Option Addr) (cap m : Nat) (hb : ∀ W, Chg (htU S C (qs0 ++ [q])) w W → IsBat W A cap b) (hm : b.recs.length = m) (hg : Rc.Good b) (hlb : (Rc.bytes b).length ≤ 1000) (hr : ((Rc.bytes b).length : Int) ≤ room - used) (hbase : b.base = (Sg.last q.s.edges).off) (hep : (Sg.last q.s.edges).ep ≤ b.epoch) (hbe : ∀ o e bs0, bats = bs0 ++ [(o, e)] → e ≤ b.epoch)
    (hedl : q.s.edges.length ≤ 90000) (hposl : (Sg.last q.s.edges).pos ≤ 900000000) (hl : Ht.big sz q.bs b = true → ∀ a ∈ qs0 ++ [q], a.base < (Sg.last q.s.edges).off) :
    Calls Tryz.prog 28 #[.pointer (some ⟨H, 0, none⟩), batV b.base b.epoch A m cap] w fun e w' => e = .returned .nilIface ∧ ∃ d' names' qs1 q1 S' C' vs' vb', HtL w0 S' (n + 5) Bd d' H C' sz ev vs' vb' (qs1 ++ [q1]) (bats ++ [Ht.pr b]) w' ∧ Ht.G d' room (used + (Rc.bytes b).length) ev names' (qs1 ++ [q1]) ∧ (qs1 ++ [q1]).map (fun q => (q.base, q.bs)) = Ht.add sz ((qs0 ++ [q]).map fun q => (q.base, q.bs)) b ∧ Chg (htU S C (qs0 ++ [q])) w w' ∧ ∀ k, htU S' C' (qs1 ++ [q1]) k → Up (htU S C (qs0 ++ [q])) w w' k := by
  have hbad : Rc.bad b = 0 := (Rc.bad_good b).2 hg
  have hpz := g.last.pos
  have hszq : ((q.bs.flatMap Rc.bytes).length : Int) = (Ht.size q.bs : Int) := rfl
  rw [hszq] at hpz
  have hadd : ∀ bg, Ht.big sz q.bs b = bg → Ht.add sz ((qs0 ++ [q]).map fun q => (q.base, q.bs)) b = if bg = true then qs0.map (fun q => (q.base, q.bs)) ++ [(q.base, q.bs)] ++ [(b.base, [b])] else qs0.map (fun q => (q.base, q.bs)) ++ [(q.base, q.bs ++ [b])] := fun bg e => by
    rw [List.map_append, List.map_singleton]
    cases bg
    · rw [Ht.add_small e]; rfl
    · rw [Ht.add_big e]; rfl
  have hrr : (decide ((Sg.last q.s.edges).pos = 0) || decide ((Sg.last q.s.edges).pos + (Rc.bytes b).length ≤ sz)) = !Ht.big sz q.bs b := by
    rw [hpz]
    unfold Ht.big
    by_cases h0 : Ht.size q.bs = 0
    · simp [h0]
    · rw [decide_eq_false (by omega : ¬ ((Ht.size q.bs : Nat) : Int) = 0), decide_eq_true (by omega : 0 < Ht.size q.bs)]
      by_cases h2 : sz < (Ht.size q.bs : Int) + (Rc.bytes b).length
      · rw [decide_eq_true h2, decide_eq_false (by omega)]; rfl
      · rw [decide_eq_false h2, decide_eq_true (by omega)]; rfl
  have HH := hide h
  have HG := hide g
  have HS := hide hs
  have HTB := hide ht
  have HPT := hide hpt
  have HBT := hide hb
  have HADD := hide hadd
  have HEPQ := hide hep
  have HBE := hide hbe
  have HL := hide hl
  have HLB := hide hlb
  have HGD := hide hg
  have HMM := hide hm
  have HBS := hide hbase
  have HPR : Hid (Ht.pr b = (b.base, b.epoch)) := hide rfl
  have HSAP := hide (fun (W : World) (S1 T1 : Nat → Prop) (X : Nat) (d1 : Dk.St) (s1 : Sg.St) (h : SgW w0 S1 T1 (n + 4) Bd d1 X s1 W) (hl : s1.edges.length ≤ 90000) (hp : (Sg.last s1.edges).pos ≤ 900000000) (hb : ∀ W2, Chg (fun k => S1 k ∨ T1 k) W W2 → IsBat W2 A cap b) => sgAppend_any w0 W S1 T1 (n + 4) Bd X d1 s1 p b A cap m h hs ht (by omega) hl hp hb hm (fun _ => hlb))
  have HR := hide hr
  have HBL := hide hbl
  have HQL := hide hlen
  have HED := hide hedl
  have HPO := hide hposl
  have HULO := hide h.uLo
  obtain ⟨U, hU⟩ : ∃ U, U = htU S C (qs0 ++ [q]) := ⟨_, rfl⟩
  rw [← hU] at HBT HULO ⊢
  have HUU := hide hU
  have hW1 : Below w.heap.size w (w.alloc (.cells #[.int .i64 b.base, .int .i64 b.epoch, .slice A m cap] 36)) := balloc (Below.refl _ _) _
  have HW1 := hide hW1
  have y0 : (w.alloc (.cells #[.int .i64 b.base, .int .i64 b.epoch, .slice A m cap] 36)).cell? ⟨w.heap.size, 0, none⟩ = some (.int .i64 b.base) := by rw [World.cell?_alloc_mark]; rfl
  have y1 : (w.alloc (.cells #[.int .i64 b.base, .int .i64 b.epoch, .slice A m cap] 36)).cell? ⟨w.heap.size, 1, none⟩ = some (.int .i64 b.epoch) := by rw [World.cell?_alloc_mark]; rfl
  have y2 : (w.alloc (.cells #[.int .i64 b.base, .int .i64 b.epoch, .slice A m cap] 36)).cell? ⟨w.heap.size, 2, none⟩ = some (.slice A m cap) := by rw [World.cell?_alloc_mark]; rfl
  have hBz : w.heap.size < (w.alloc (.cells #[.int .i64 b.base, .int .i64 b.epoch, .slice A m cap] 36)).heap.size := by simp
  have HVL := hide (fun (W : World) (hw : Below w.heap.size w W) => valid_any b A cap m W p (HBT.out W (Chg.of_below hw)) (SentsG.two (hs.below (h.below.trans (hw.mono h.below.size)))) hm)
  rw [hbad] at HVL
  have HEN := hide (fun (W : World) (hw : Below w.heap.size w W) => htEnd_any (h.grow hw))
  have HFO := hide (fun (W : World) (hw : Below w.heap.size w W) => htFollows_any (h.grow hw) true b.epoch (fun o e bs0 eq => (decide_eq_true (hbe o e bs0 eq)).symm) (fun _ => rfl))
  have HRM := hide (fun (W : World) (hw : Below w.heap.size w W) => htRoom_any (h.grow hw) b A m cap (Rc.bytes b).length (!Ht.big sz q.bs b) (by omega) hrr.symm (fun W2 hw2 => by
    have hz := size_any_bat b A cap m W2 p (HBT.out W2 (Chg.of_below (hw.trans (hw2.mono hw.size)))) (SentsG.two (hs.below (h.below.trans ((hw.trans (hw2.mono hw.size)).mono h.below.size)))) hm
    rw [if_pos hbad] at hz
    exact hz))
  rw [← hbase] at HEN
  obtain ⟨A0, c0, A', c', rfl, rfl, -, -, -, -, -, c3, c4⟩ := h.cells
  rw [List.length_append, List.length_singleton] at c3
  have hHl := h.lt
  have hz0 : ((qs0.length : Int) + 1 == 0) = false := by rw [beq_eq_false_iff_ne]; omega
  replace c3 := (hW1.cell (p := ⟨H, 3, none⟩) hHl).trans c3
  have hrol : Hid (0 ≤ b.base ∧ b.base ≤ 1099511627776) := hide ⟨hg.base0, by have := hg.base1; omega⟩
  have HFOL : Hid (Sg.follows q.s.edges b = true) := hide (by unfold Sg.follows; rw [← hbase, decide_eq_true hep]; simp)
  have HFOL2 : Hid (∀ f, Sg.follows (Sg.begin f b.base ev).edges b = true) := hide (fun f => by
    unfold Sg.follows
    have e : Sg.last (Sg.begin f b.base ev).edges = ⟨b.base, 0, 0, 0⟩ := rfl
    rw [e, decide_eq_true hg.ep0]; simp)
  clear h g hs ht hpt hb hadd hep hbe hl hlb hg hm hbase hr hbl hlen hedl hposl hW1 hrr hbad hpz hszq hU
  generalize b.base = ba at *
  generalize b.epoch = ep at *
  generalize Ht.big sz q.bs b = bg at *
  unfold batV errOf at *
  simp only [if_true] at HVL
  go_enter Tryz.func28, Tryz.ntmps28
  go_upto_region 1 with fail
  generalize w.alloc (.cells #[.int .i64 ba, .int .i64 ep, .slice A m cap] 36) = W1 at *
  obtain ⟨Bx, hBx⟩ : ∃ Bx, Bx = w.heap.size := ⟨_, rfl⟩
  rw [← hBx] at y0 y1 y2 hBz ⊢
  have HBX := hide hBx
  clear hBx
  have Y0 := hide y0
  have Y1 := hide y1
  have Y2 := hide y2
  have hH1 : H < W1.heap.size := Nat.lt_of_lt_of_le hHl HW1.out.size
  go_upto_region 6 with (first
    | (go_at_call 59; refine (HVL.out _ HW1.out).mono ?_; rintro e w2 ⟨rfl, hb2⟩; have HB2 := hide hb2; clear hb2)
    | fail)
  have hBz2 : Bx < w2.heap.size := Nat.lt_of_lt_of_le hBz HB2.out.size
  replace y0 := (HB2.out.cell (p := ⟨Bx, 0, none⟩) hBz).trans y0
  replace y1 := (HB2.out.cell (p := ⟨Bx, 1, none⟩) hBz).trans y1
  replace y2 := (HB2.out.cell (p := ⟨Bx, 2, none⟩) hBz).trans y2
  have HW2 := hide (HW1.out.trans (HB2.out.mono HW1.out.size))

  refine wp_region_guard (G := fun a b : World => Below a.heap.size a b) ⟨fun w => Below.refl _ w, fun h k => h.trans (k.mono h.size)⟩ [20, 21, 22, 23, 24, 25, 26, 27, 28, 29, 30, 31] (fun d => match d with
    | 20 => .is (.pointer (some ⟨Bx, 0, none⟩)) | 21 => .is (.int .i64 ba) | 22 => .is (.pointer (some ⟨H, 0, none⟩)) | 23 => .is (.int .i64 ba) | 24 => .is (.bool false) | 25 => .is (.bool false)
    | 26 => .is (.pointer (some ⟨H, 0, none⟩)) | 27 => .is (.pointer (some ⟨Bx, 1, none⟩)) | 28 => .is (.int .i64 ep) | 29 => .is (.bool true) | 30 => .is (.bool false) | _ => .is (.bool false)) (by kernel_rfl) (by kernel_rfl) (by kernel_rfl) ?_ ?_
  · simp only [StepsG]
    refine ⟨?_, ?_, ?_, ?_, ?_, ?_, ?_, ?_, ?_, ?_, ?_, ?_, trivial⟩
    all_goals
      intro ev w6 hb hev hd
      have ev0 : ev (.tmp 0) = .pointer (some ⟨H, 0, none⟩) := hev _ (by simp)
      have ev3 : ev (.tmp 3) = .pointer (some ⟨Bx, 0, none⟩) := hev _ (by simp)
      have evf : ∀ f, ev (.func f) = .func (.func f) #[] #[] := fun f => hev _ (by simp)
      have evc : ∀ c, ev (.const c) = c := fun c => hev _ (by simp)
      have k0 := (hb.cell (p := ⟨Bx, 0, none⟩) hBz2).trans y0
      have k1 := (hb.cell (p := ⟨Bx, 1, none⟩) hBz2).trans y1
      have HB6 := hide (HW2.out.trans (((Below.refl w2.heap.size w2).drew.trans hb).mono HW2.out.size))
      clear hev hb y0 y1 y2
      simp [DepsG, Held.is] at hd
      try simp [OpGuard, OpRuns, execOp, go_sem, Held.is, Below.refl, *]
    · exact HEN.out w6 HB6.out
    · refine (HFO.out w6 HB6.out).mono fun e w7 ⟨he, hk⟩ => ⟨he, ?_⟩
      exact below_dr hk
  · intro f w3 hb hf
    have e31 : f 31 = .bool false := hf 31 (by simp)
    have HB3 := hide (HB2.out.trans (((Below.refl w2.heap.size w2).drew.trans hb).mono HB2.out.size))
    have hb3 : Below w2.heap.size w2 w3 := (Below.refl w2.heap.size w2).drew.trans hb
    have hBz3 : Bx < w3.heap.size := Nat.lt_of_lt_of_le hBz2 hb3.size
    replace y0 := (hb3.cell (p := ⟨Bx, 0, none⟩) hBz2).trans y0
    replace y1 := (hb3.cell (p := ⟨Bx, 1, none⟩) hBz2).trans y1
    replace y2 := (hb3.cell (p := ⟨Bx, 2, none⟩) hBz2).trans y2
    have HW3 := hide (HW2.out.trans (hb3.mono HW2.out.size))
    clear hf hb hb3 HVL HEN HFO HW2
    simp only [puts, Act.put, List.setIfInBounds_toArray, List.set_cons_succ, List.set_cons_zero]
    rw [e31]
    clear e31
    generalize f 20 = q20
    generalize f 21 = q21
    generalize f 22 = q22
    generalize f 23 = q23
    generalize f 24 = q24
    generalize f 25 = q25
    generalize f 26 = q26
    generalize f 27 = q27
    generalize f 28 = q28
    generalize f 29 = q29
    generalize f 30 = q30
    clear f
    go_upto_if 36 with (first
      | (go_at_call 61; refine (HRM.out _ HW3.out).mono ?_; rintro e w4 ⟨rfl, hb⟩; have HB4 := hide (HB3.out.trans (hb.mono HB3.out.size)); replace y0 := (hb.cell (p := ⟨Bx, 0, none⟩) hBz3).trans y0; replace y1 := (hb.cell (p := ⟨Bx, 1, none⟩) hBz3).trans y1; replace y2 := (hb.cell (p := ⟨Bx, 2, none⟩) hBz3).trans y2; have hBz4 : Bx < w4.heap.size := Nat.lt_of_lt_of_le hBz3 hb.size; have HW4 := hide (HW3.out.trans (hb.mono HW3.out.size)); clear hb)
      | fail)
    have HB1U : Hid (∀ W, Below W1.heap.size W1 W → Chg U W1 W) := hide (fun W hw => Chg.of_below hw)
    have HUB : Hid (∀ k, U k → k < Bx) := hide (fun k hk => by have := (HULO.out k hk).2; have := HBX.out; omega)
    go_cut [6] from 37 to 42 (fun ev6 wx => ∃ d1 names1 qs1 q1 S1 C1 vs1, HtMid w0 w W1 U (n + 4) Bd H sz ev room used (.slice A' bats.length c') bats b (if bg = true then qs0.map (fun q => (q.base, q.bs)) ++ [(q.base, q.bs)] ++ [(ba, [b])] else qs0.map (fun q => (q.base, q.bs)) ++ [(q.base, q.bs ++ [b])]) d1 names1 qs1 q1 S1 C1 vs1 wx)
    case first =>
      cases bg
      · go_wp2_with fail
        go_meet
        refine ⟨d, names, qs0, q, S, C, _, ⟨(HH.out.grow HW4.out).mono (by omega), HG.out, HFOL.out, HED.out, HPO.out, rfl, Chg.of_below HB4.out, fun k hk => .inl (HUU.out ▸ hk)⟩⟩
      · go_wp2_with (first
          | (go_at_call 62; refine (htRoll_good (HH.out.grow HW4.out) p HS.out HPT.out (by omega) HQL.out HG.out h1 (HL.out rfl)).mono ?_; rintro e w5 ⟨rfl, d5, n5, q5a, q5b, S5, C5, vs5, h5, g5, e51, e52, e53, e54, e55, hc5, hu5⟩; have H5 := hide h5; have G5 := hide g5; have HC5 := hide hc5; have HU5 := hide hu5; clear h5 g5 hc5 hu5)
          | fail)
        go_meet
        have hz4 := HB4.out.size
        have hz5 := HC5.out.size
        refine ⟨d5, n5, qs0 ++ [q5a], q5b, S5, C5, vs5, ⟨H5.out, G5.out, ?_, ?_, ?_, ?_, ?_, fun k hk => ?_⟩⟩
        · rw [e55, ← HBS.out]; exact HFOL2.out _
        · rw [e55]; show (1 : Nat) ≤ 90000; omega
        · rw [e55]; show (0 : Int) ≤ 900000000; omega
        · rw [List.map_append, List.map_singleton, e51, e52, e53, e54, HBS.out]; rfl
        · exact (Chg.of_below HB4.out).then (HUU.out ▸ HC5.out)
        · have hu := HU5.out k hk
          rw [← HUU.out] at hu
          rcases hu with hu | hu
          · exact .inl hu
          · exact .inr (by omega)
    case rest =>
      obtain ⟨d1, names1, qs1, q1, S1, C1, vs1, hM⟩ := hcut
      rename World => wx
      have HM := hide hM
      have x0 : wx.cell? ⟨Bx, 0, none⟩ = some (.int .i64 ba) := hM.chg.cell Y0.out (fun e => Nat.lt_irrefl _ (HUB.out _ e))
      have x1 : wx.cell? ⟨Bx, 1, none⟩ = some (.int .i64 ep) := hM.chg.cell Y1.out (fun e => Nat.lt_irrefl _ (HUB.out _ e))
      have x2 : wx.cell? ⟨Bx, 2, none⟩ = some (.slice A m cap) := hM.chg.cell Y2.out (fun e => Nat.lt_irrefl _ (HUB.out _ e))
      have hxz := hM.chg.size
      have hBx : Bx < wx.heap.size := Nat.lt_of_lt_of_le hBz hxz
      have HLA := hide (htLast_any hM.log)
      clear hM y0 y1 y2 hBz2 hBz3 hBz4 HB2 HB3 HB4 HW3 HW4 HRM
      go_upto_region 12 with fail
      obtain ⟨d6, hsa, hg6⟩ := HM.out.g.add b HGD.out HM.out.fol HR.out
      have HG6 := hide hg6
      have HSA := hide (fun (W : World) (hW : Below wx.heap.size wx W) => HSAP.out W S1 q1.T q1.X d1 q1.s ((HM.out.log.grow hW).seg q1 (by simp)) HM.out.len HM.out.pos (fun W2 hc2 => HBT.out W2 (by
        have hz0 := HW1.out.size
        have hz1 := HM.out.chg.size
        have hz2 := hW.size
        refine Chg.next (((Chg.of_below HW1.out).then HM.out.chg).then (Chg.of_below hW)) (fun k hk => ?_) hc2
        rcases HM.out.up k (hk.elim .inl fun h => .inr (.inr ⟨q1, by simp, h⟩)) with h | h
        · exact .inl h
        · exact .inr (by omega))))
      rw [hsa] at HSA
      simp only [errR] at HSA
      clear hsa hg6 HSAP
      have hHx : H < wx.heap.size := HM.out.log.lt
      have HDX : Hid (Below wx.heap.size wx wx.drew) := hide (Below.refl wx.heap.size wx).drew
      refine wp_region_V (G0 := fun a b : World => Below a.heap.size a b) (G1 := fun a b : World => Below a.heap.size a b) (J := fun W => SgPost w0 S1 q1.T (n + 4 + 1) Bd d6 q1.X (q1.s.add b (Rc.bytes b).length) wx W) ⟨fun w => Below.refl _ w, fun h k => h.trans (k.mono h.size)⟩ (fun _ _ h hb => h.grow hb) 3 [42, 43, 44, 45, 7] [42, 43, 44, 45, 7] [0, 1, 2] [4]
        (fun d => match d with | 42 => .is (.pointer (some ⟨H, 0, none⟩)) | 43 => .is (.pointer (some ⟨q1.X, 0, none⟩)) | 44 => .is (.agg #[.int .i64 ba, .int .i64 ep, .slice A m cap]) | _ => heldNo)
        (fun d => match d with | 45 => .is .nilIface | 7 => .is .nilIface | _ => .any) (by kernel_rfl) (by kernel_rfl) (by kernel_rfl) (.inl rfl) ?_ ?_
      · simp only [StepsV]
        refine ⟨?_, ?_, ?_, ?_, ?_, trivial⟩
        all_goals first | rw [if_pos (by decide)] | (rw [if_neg (by decide)]; first | rw [if_pos (by decide)] | (rw [if_neg (by decide)]; first | rw [if_pos (by decide)] | (rw [if_neg (by decide)]; refine ⟨?_, ?_⟩)))
        all_goals
          intro ev wb hb hev hd
          have ev0 : ev (.tmp 0) = .pointer (some ⟨H, 0, none⟩) := hev _ (by simp)
          have ev3 : ev (.tmp 3) = .pointer (some ⟨Bx, 0, none⟩) := hev _ (by simp)
          have evf : ∀ f, ev (.func f) = .func (.func f) #[] #[] := fun f => hev _ (by simp)
          have evc : ∀ c, ev (.const c) = c := fun c => hev _ (by simp)
          clear hev
          simp [DepsV, Held.is, Held.any] at hd
          try
            have HBb : Hid (Below wx.heap.size wx wb) := hide (HDX.out.trans (hb.mono HDX.out.size))
            have v0 := (HBb.out.cell (p := ⟨Bx, 0, none⟩) hBx).trans x0
            have v1 := (HBb.out.cell (p := ⟨Bx, 1, none⟩) hBx).trans x1
            have v2 := (HBb.out.cell (p := ⟨Bx, 2, none⟩) hBx).trans x2
          try (simp [OpGuardU, OpRuns, execOp, go_sem, Held.is, Held.any, Below.refl, *]; done)
        · simp [OpGuardU, OpRuns, execOp, go_sem, Held.is, *]
          exact (htLast_any (HM.out.log.grow HBb.out)).mono fun e w'' ⟨he, hk⟩ => ⟨he, below_dr hk⟩
        · simp [OpGuardU, OpRuns, execOp, go_sem, heldNo, Held.is, Held.any, *]
          exact (HSA.out wb HBb.out).mono fun e w'' ⟨he, hp⟩ => ⟨he, SgPost.ahead HBb.out hp⟩
      · intro f wy hJ hf
        have e7 : f 7 = .nilIface := hf 7 (by simp)
        clear hf
        simp only [puts, Act.put, List.setIfInBounds_toArray, List.set_cons_succ, List.set_cons_zero]
        rw [e7]
        clear e7
        generalize f 42 = q42
        generalize f 43 = q43
        generalize f 44 = q44
        generalize f 45 = q45
        clear f
        obtain ⟨S2, T2, hw6, hc6, hu6⟩ := hJ
        have HZX := hide HM.out.chg.size
        have HZY := hide hc6.size
        have HC6 : Hid (Chg U W1 wy) := hide (HM.out.chg.next HM.out.up (hc6.mono fun k hk => hk.elim .inl fun h => .inr (.inr ⟨q1, by simp, h⟩)))
        have HU6 : Hid (∀ k, htU S2 C1 (qs1 ++ [{ q1 with T := T2, s := q1.s.add b (Rc.bytes b).length, bs := q1.bs ++ [b] }]) k → Up U W1 wy k) := hide (fun k hk => Up.then HM.out.up HZX.out HZY.out (htU_told hu6 k hk))
        have H6 := hide (HM.out.log.told (bs' := q1.bs ++ [b]) hw6 hc6 hu6)
        have G6 := hide (HG6.out T2)
        clear hw6 hc6 hu6 HG6 x0 x1 x2 hBx hHx HDX HSA HLA hxz
        have z0 : wy.cell? ⟨Bx, 0, none⟩ = some (.int .i64 ba) := HC6.out.cell Y0.out (fun e => Nat.lt_irrefl _ (HUB.out _ e))
        have z1 : wy.cell? ⟨Bx, 1, none⟩ = some (.int .i64 ep) := HC6.out.cell Y1.out (fun e => Nat.lt_irrefl _ (HUB.out _ e))
        have hzB : Bx < wy.heap.size := Nat.lt_of_lt_of_le hBz HC6.out.size
        have hzH : H < wy.heap.size := H6.out.lt
        have z4 : wy.cell? ⟨H, 4, none⟩ = some (.slice A' bats.length c') := box_cell H6.out.box 4
        go_upto_region 15 with fail
        obtain ⟨row, hrow⟩ : ∃ row, row = Value.ownBlock (.slice A' bats.length c') := ⟨_, rfl⟩
        have hrow5 : ∀ k, row = some k → k < wy.heap.size := fun k hk => (H6.out.bat.lt k (hrow ▸ hk)).2
        have hnX : ∀ k, row = some k → k ≠ H := fun k hk e => H6.out.ne.2.1 (by rw [← hrow, hk, e])
        have hnB : ∀ k, row = some k → k ≠ Bx := fun k hk e => by
          have h1 := HU6.out k (.inr (.inl (H6.out.mine.2.2 k (hrow ▸ hk))))
          have h2 := HUB.out k
          rcases h1 with h1 | h1
          · have := h2 h1; omega
          · omega
        have HOW := hide H6.out.bat
        refine wp_region_app (G0 := fun a b : World => Below a.heap.size a b) (G := fun a b : World => Chg (fun k => row = some k) a b) ⟨fun w => Below.refl _ w, fun h k => h.trans (k.mono h.size)⟩ ⟨fun w => Chg.refl _ w, fun h k => h.then k⟩ (fun a b h => Chg.of_below h) [49, 50, 51, 52, 53, 54, 55, 56, 57, 58, 59, 60, 61, 62] 11 60 [] (fun d => match d with
          | 49 => .is (.pointer (some ⟨H, 0, none⟩)) | 50 => .is (.pointer (some ⟨H, 0, none⟩)) | 51 => .is (.pointer (some ⟨H, 0, none⟩)) | 52 => .is (.pointer (some ⟨H, 4, none⟩)) | 53 => .is (.slice A' bats.length c') | 54 => .is (.pointer (some ⟨Bx, 0, none⟩)) | 55 => .is (.int .i64 ba) | 56 => .is (.pointer (some ⟨Bx, 1, none⟩)) | 57 => .is (.int .i64 ep) | 58 => .is (.agg #[.int .i64 ba, .int .i64 ep]) | 59 => heldNew row wy.heap.size [.int .i64 ba, .int .i64 ep] hrow5 | 61 => .is (.pointer (some ⟨H, 0, none⟩)) | 62 => .is (.pointer (some ⟨H, 4, none⟩)) | _ => .any) (heldApp wy row 103 2 (bats.length + 1) (bats.flatMap hbCells ++ [.int .i64 ba, .int .i64 ep])) _ (by kernel_rfl) (by kernel_rfl) rfl (by kernel_rfl) ?_ ?_
        · simp only [List.size_toArray, List.length_cons, List.length_nil, List.take_succ_cons, List.take_zero, StepsA]
          refine ⟨?_, ?_, ?_, ?_, ?_, ?_, ?_, ?_, ?_, ?_, ?_, ?_, ?_, ?_, trivial⟩
          all_goals first | rw [if_pos (by decide)] | (rw [if_neg (by decide)]; first | rw [if_pos (by decide)] | rw [if_neg (by decide)])
          all_goals
            intro ev w6 hb hev hd
            have ev0 : ev (.tmp 0) = .pointer (some ⟨H, 0, none⟩) := hev _ (by simp)
            have ev3 : ev (.tmp 3) = .pointer (some ⟨Bx, 0, none⟩) := hev _ (by simp)
            have evf : ∀ f, ev (.func f) = .func (.func f) #[] #[] := fun f => hev _ (by simp)
            have evc : ∀ c, ev (.const c) = c := fun c => hev _ (by simp)
            have k4 : w6.cell? ⟨H, 4, none⟩ = some (.slice A' bats.length c') := by first | exact Chg.cell hb z4 (fun e => hnX H e rfl) | exact (hb.cell (p := ⟨H, 4, none⟩) hzH).trans z4
            have k0 : w6.cell? ⟨Bx, 0, none⟩ = some (.int .i64 ba) := by first | exact Chg.cell hb z0 (fun e => hnB Bx e rfl) | exact (hb.cell (p := ⟨Bx, 0, none⟩) hzB).trans z0
            have k1 : w6.cell? ⟨Bx, 1, none⟩ = some (.int .i64 ep) := by first | exact Chg.cell hb z1 (fun e => hnB Bx e rfl) | exact (hb.cell (p := ⟨Bx, 1, none⟩) hzB).trans z1
            have HB6 := hide hb
            clear hev hb z0 z1 z4 hnX hnB
            simp [DepsD, Dj, Held.is] at hd
            first
              | (obtain ⟨h20, g, hg1, hg2, h31, hnw⟩ := hd
                 refine opRuns_app 84 103 2 16 _ (by kernel_rfl) hb_info (by rfl) (by omega) (.tmp 53) (.tmp 59) (by rfl) 0 (.slice A' bats.length c') bats.length (bats.flatMap hbCells) h20 (ownsRow_same HOW.out fun q hq => HB6.out.block q (HOW.out.lt q hq).2) ⟨g, 0, none⟩ 1 1 [.int .i64 ba, .int .i64 ep] h31 (by rfl) hnw (by intro u hu; simp at hu; rcases hu with rfl | rfl <;> rfl) (by have := HBL.out; simp only [maxLen]; omega) (by have := HBL.out; omega) (Nat.zero_le _) fun v8 w8 ho8 hg8 hv8 => ⟨Chg.of_grown hg8 (fun k hk => hrow.trans hk), ?_⟩
                 show Dj _ _ 60 60 _ _
                 unfold Dj
                 rw [if_pos rfl]
                 exact ⟨w6, w8, (Below.refl wy.heap.size wy).drew.trans HB6.out, hrow ▸ hg8, ho8, by rw [hrow]; exact hv8, Below.refl _ _⟩)
              | simp [OpRuns, execOp, go_sem, Dj, Held.is, Below.refl, *]
          · exact ⟨balloc (Below.refl _ _) _, w6.heap.size, HB6.out.size, by simp, rfl, news2 (w := w6)⟩
        · intro f w9 hb hf
          have hj := hf 60 (by simp)
          unfold Dj at hj
          rw [if_pos rfl] at hj
          obtain ⟨wa, wb, h1, h2, h3, h4, h5⟩ := hj
          have e34 : f 62 = .pointer (some ⟨H, 4, none⟩) := by have := hf 62 (by simp); simpa [Dj, Held.is] using this
          have hg9 : wa.grownBy w9 (Value.ownBlock (.slice A' bats.length c')) := hrow ▸ ⟨h5.os.trans h2.os, h5.tape.trans h2.tape, h5.output.trans h2.output, Nat.le_trans h2.size h5.size, fun k hk hn => (h5.block k (Nat.lt_of_lt_of_le hk h2.size)).trans (h2.block k hk hn)⟩
          have ho9 := ownsRow_same h3 fun g hg => h5.block g (h3.lt g hg).2
          obtain ⟨A8, n8, k8, e8⟩ := own_slice h3
          rw [e8] at ho9 h4
          have hbx := H6.out.boxAt h1 hg9 H6.out.ne.2.1
          have e3 : w9.cell? ⟨H, 4, none⟩ = some (.slice A' bats.length c') := box_cell hbx 4
          have ef : w9.frozen? ⟨H, 4, none⟩ = false := box_free hbx 4
          have HP := hide (H6.out.pushB (ba, ep) h1 hg9 ho9 (hrow ▸ h4))
          have HZ9 := hide hg9.size
          have HZA := hide h1.size
          clear hb hf h1 h2 h3 h4 h5 ho9 hg9 hbx HOW hrow hrow5 hnX hnB z0 z1 z4
          simp only [puts, Act.put, List.setIfInBounds_toArray, List.set_cons_succ, List.set_cons_zero]
          rw [e34, e8]
          clear e34 e8
          generalize f 49 = q49
          generalize f 50 = q50
          generalize f 51 = q51
          generalize f 52 = q52
          generalize f 53 = q53
          generalize f 54 = q54
          generalize f 55 = q55
          generalize f 56 = q56
          generalize f 57 = q57
          generalize f 58 = q58
          generalize f 59 = q59
          generalize f 61 = q61
          clear f
          go_wp2_with fail
          go_ret
          have hw1 := HW1.out.size
          refine ⟨rfl, d6, names1, qs1, _, S2, _, vs1, _, by rw [HPR.out]; exact HP.out.1, G6.out, ?_, ((Chg.of_below HW1.out).then HC6.out).next (fun k hk => ?_) HP.out.2, fun k hk => ?_⟩
          · rw [HADD.out bg rfl, ← HM.out.gs, List.map_append, List.map_singleton]
          · exact (HU6.out k (.inr (.inl hk))).imp_right fun h => by omega
          · refine (Up.then HU6.out HC6.out.size HP.out.2.size ?_).imp_right fun h => by omega
            rcases hk with hk | (hk | hk) | hk
            · exact .inl (.inl hk)
            · exact .inl (.inr (.inl hk))
            · exact .inr ⟨by have := HZA.out; omega, by have := HP.out.2.size; simp at this ⊢; omega⟩
            · exact .inl (.inr (.inr hk))
end
end Go.Proofs.YtcmgppacipdnaaaGreatDoor
