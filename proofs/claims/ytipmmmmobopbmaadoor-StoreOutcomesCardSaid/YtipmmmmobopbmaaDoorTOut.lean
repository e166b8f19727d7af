/-
  StoreOutcomes, walked.
  StoreOutcomes, proved.
-/
import Derived.Test.YtipmmmmobopbmaaDoorT4
import Derived.LoopTactic
import Derived.Deep.LoopGhost
import Derived.Test.YtipmmmmobopbmaaDoorT2
namespace Go.Proofs.YtipmmmmobopbmaaDoor.St

def nmO (i : Nat) : Nm := [UInt8.ofNat (97 + i % 26), UInt8.ofNat (97 + i / 26)]
def runO (outs : List Int) : Nat → S
  | 0 => S.new.scripted outs
  | i + 1 => ((runO outs i).put (nmO i) [UInt8.ofNat i]).2
def badO (outs : List Int) : Nat → Nat
  | 0 => 0
  | i + 1 => badO outs i + (if outs.getD i 0 = 1 ∨ outs.getD i 0 = 2 then 1 else 0)
theorem nmO_valid : ∀ i, i < 30 → Dk.valid (nmO i) = true := by decide
theorem nmO_inj : ∀ i, i < 30 → ∀ j, j < 30 → nmO i = nmO j → i = j := by decide
theorem nmO_z : ∀ i, i < 30 → nmO i ≠ [122] := by decide
theorem badO_le (outs : List Int) : ∀ i, badO outs i ≤ i
  | 0 => Nat.le_refl _
  | i + 1 => by have := badO_le outs i; simp only [badO]; split <;> omega
structure AtO (outs : List Int) (i : Nat) (s : S) : Prop where
  script : s.script = outs.drop i
  calls : s.calls = i
  failed : s.failed = badO outs i
  none : ∀ j, i ≤ j → j < 30 → s.objs (nmO j) = none
theorem put_at (outs : List Int) (i : Nat) (s : S) (hi : i < outs.length) (h : AtO outs i s) (hl : outs.length ≤ 30) (b : List UInt8) :
    AtO outs (i + 1) (s.put (nmO i) b).2 ∧ (s.put (nmO i) b).1.2 = (if outs.getD i 0 = 1 ∨ outs.getD i 0 = 2 then some 10 else none) ∧ ((s.put (nmO i) b).2.objs (nmO i)).isSome = decide (outs.getD i 0 ≠ 1) := by
  have ho : s.out = outs.getD i 0 := by
    unfold S.out
    rw [h.script]
    simp [List.getD, List.head?_drop]
  have hv := nmO_valid i (by omega)
  have hn := h.none i (Nat.le_refl _) (by omega)
  have hsc : s.took.script = outs.drop (i + 1) := by simp [S.took, h.script]
  have hcl : s.took.calls = ((i + 1 : Nat) : Int) := by simp [S.took, h.calls]
  have hfl : s.took.failed = badO outs (i + 1) := by
    simp only [S.took, h.failed, badO, ho]
    split <;> simp
  have hno : ∀ j, i + 1 ≤ j → j < 30 → nmO j ≠ nmO i := fun j h1 h2 e => by have := nmO_inj j h2 i (by omega) e; omega
  have htn : ∀ j, i ≤ j → j < 30 → s.took.objs (nmO j) = .none := fun j h1 h2 => h.none j h1 h2
  unfold S.put S.ask
  rw [ho]
  generalize outs.getD i 0 = o at *
  by_cases h1 : o = 1
  · rw [if_pos h1]
    refine ⟨⟨hsc, hcl, hfl, fun j h1 h2 => htn j (by omega) h2⟩, by simp [h1], ?_⟩
    simp only
    rw [htn i (Nat.le_refl _) (by omega)]
    simp [h1]
  · rw [if_neg h1]
    have e : S.putF (nmO i) b s.took = (((), .none), { s.took with objs := upd s.took.objs (nmO i) (some b) }) := by unfold S.putF; rw [if_pos hv]
    have hat : AtO outs (i + 1) { s.took with objs := upd s.took.objs (nmO i) (some b) } := ⟨hsc, hcl, hfl, fun j h1 h2 => by
      show upd _ _ _ _ = _
      rw [upd_other _ _ _ _ (hno j h1 h2)]
      exact htn j (by omega) h2⟩
    by_cases h2 : o = 2
    · rw [if_pos h2, e]
      exact ⟨hat, by simp [h2], by simp [upd, h2]⟩
    · rw [if_neg h2, e]
      exact ⟨hat, by simp [h1, h2], by simp [upd, h1]⟩
theorem runO_at (outs : List Int) (hl : outs.length ≤ 30) : ∀ i, i ≤ outs.length → AtO outs i (runO outs i)
  | 0, _ => ⟨by simp [runO, S.scripted, S.new], rfl, rfl, fun _ _ _ => rfl⟩
  | i + 1, h => (put_at outs i _ (by omega) (runO_at outs hl i (by omega)) hl _).1
/-- The script is at its end: a call is done. -/
theorem last_at (outs : List Int) (s : S) (h : AtO outs outs.length s) : (s.put [122] []).1.2 = .none ∧ (s.put [122] []).2.failed = badO outs outs.length := by
  have hv : Dk.valid [122] = true := by decide
  have hs : s.script = [] := by rw [h.script]; simp
  have ho : s.out = 0 := by simp [S.out, hs]
  unfold S.put S.ask
  rw [ho]
  simp only [show ¬ (0 : Int) = 1 by omega, show ¬ (0 : Int) = 2 by omega, if_false, S.putF, hv, if_true]
  exact ⟨trivial, by simp [S.took, ho, h.failed]⟩
end Go.Proofs.YtipmmmmobopbmaaDoor.St
namespace Go.Proofs.YtipmmmmobopbmaaDoor
open Go.RowKit Go.Maps

theorem nmO_cells (j : Nat) (hj : j < 30) : (cells (St.nmO j)).toArray = #[.int .u8 (97 + (j : Int) % 26), .int .u8 (97 + (j : Int) / 26)] := by
  have h1 : ((UInt8.ofNat (97 + j % 26)).toNat : Int) = 97 + (j : Int) % 26 := by rw [UInt8.toNat_ofNat']; omega
  have h2 : ((UInt8.ofNat (97 + j / 26)).toNat : Int) = 97 + (j : Int) / 26 := by rw [UInt8.toNat_ofNat']; omega
  simp only [cells, St.nmO, List.map_cons, List.map_nil, byteV, B, h1, h2]
theorem byte_cells (j : Nat) (hj : j < 256) : (cells [UInt8.ofNat j]).toArray = #[.int .u8 (j : Int)] := by
  have h1 : ((UInt8.ofNat j).toNat : Int) = (j : Int) := by rw [UInt8.toNat_ofNat']; omega
  simp only [cells, List.map_cons, List.map_nil, byteV, B, h1]

set_option maxRecDepth 100000 in
set_option maxHeartbeats 1000000 in
theorem outcomes_walk (w : World) (p : Nat → Addr) (hs : Sents w p) (A : Option Addr) (cap n : Nat) (zs : List Int) (hz : IntsArg w A cap zs) (hn : zs.length = n) :
    Calls Tryd.prog 4 #[.slice A n cap] w fun e w' => e = .returned (.bool true) ∧ Below w.heap.size w w' := by
  have HS := hide hs
  have HZ := hide hz
  have HN := hide hn
  have HF := hide (stFirst_any w p hs)
  clear hs hz hn
  by_cases hle : n ≤ 30
  · have HAT := hide (fun i hi => St.runO_at zs (by have := HN.out; omega) i hi)
    go_enter Tryd.func4, Tryd.ntmps4
    go_wp2_with (first
      | (go_at_call 9; refine HF.out.mono ?_; rintro e w1 ⟨rfl, hb⟩; have HB1 := hide hb; clear hb)
      | (go_at_call 11; refine (stNew_any w w1 HB1.out).mono ?_; rintro e w2 ⟨sb, S, rfl, h, -, -⟩; have H2 := hide h; clear h)
      | (go_at_call 22; refine (StS.script H2.out A cap n zs (HZ.out.below H2.out.below (Nat.le_refl _)) HN.out (by have := HN.out; simp [St.S.new]; omega)).mono ?_; rintro e w3 ⟨rfl, S3, h, -⟩; have H3 := hide h; clear h H2)
      | fail)
    go_loopw [5, 6] (fun b i wr => ∃ (j : Nat) (S D : Nat → Prop), j ≤ n ∧ i = .int .i64 j ∧ b = .int .i64 (St.badO zs j) ∧ StS w S D sb (St.runO zs j) j wr) (fun _ i _ => n - (intOf i).toNat)
    case atStart => exact ⟨0, S3, _, Nat.zero_le _, rfl, rfl, H3.out⟩
    case round =>
      obtain ⟨j, S4, D4, hj, rfl, rfl, h4⟩ := hrel
      have H4 := hide h4
      clear h4
      by_cases hlt : j < n
      · have HPUT := hide (St.put_at zs j _ (by have := HN.out; omega) (HAT.out j (by have := HN.out; omega)) (by have := HN.out; omega) [UInt8.ofNat j])
        have hbad : (St.badO zs (j + 1) : Int) = St.badO zs j + (if zs.getD j 0 = 1 ∨ zs.getD j 0 = 2 then 1 else 0) := by
          simp only [St.badO]; split <;> simp
        have HBAD := hide hbad
        have hrun : St.runO zs (j + 1) = ((St.runO zs j).put (St.nmO j) [UInt8.ofNat j]).2 := rfl
        have HRUN := hide hrun
        clear hbad hrun
        have hjn : j < 30 := by omega
        have HC1 := hide (nmO_cells j hjn)
        have HC2 := hide (byte_cells j (by omega))
        have kc : ∀ W : World, (convert 35 9 (.slice (some ⟨W.heap.size, 0, none⟩) 2 2)).run Tryd.prog (W.alloc (.cells #[.int .u8 (97 + (j : Int) % 26), .int .u8 (97 + (j : Int) / 26)] 5)) = .ok (encStr (St.nmO j)) (W.alloc (.cells #[.int .u8 (97 + (j : Int) % 26), .int .u8 (97 + (j : Int) / 26)] 5)) := fun W =>
          str_of_n (Arg.made W (St.nmO j) _ _ (0, 0) 2 HC1.out rfl (by omega)) rfl
        have hbl := St.badO_le zs j
        have hwb : IntKind.i64.wrap ((St.badO zs j : Int) + 1) = (St.badO zs j : Int) + 1 := IntWalk.i64_in _ (by omega)
        obtain ⟨b0, o0, hA, hcw⟩ := HZ.out.get j (by have := HN.out; omega)
        subst hA
        have HCELL : Hid (∀ W, Below w.heap.size w W → W.cell? ⟨b0, o0 + j, none⟩ = some (.int .i64 (zs.getD j 0))) := hide (fun W hb => (hb.cell (p := ⟨b0, o0 + j, none⟩) (World.block_lt_of_cell? _ _ hcw)).trans hcw)
        clear hcw
        generalize hro : St.runO zs j = s4 at *
        generalize zs.getD j 0 = o at *
        generalize hbo : St.badO zs j = bo at *
        by_cases e1 : o = 1
        · have HX := hide e1
          have hr : (s4.put (St.nmO j) [UInt8.ofNat j]).1.2 = some 10 := by rw [HPUT.out.2.1]; simp [e1]
          have hi : ((s4.put (St.nmO j) [UInt8.ofNat j]).2.objs (St.nmO j)).isSome = false := by rw [HPUT.out.2.2]; simp [e1]
          have HR := hide hr
          have HI := hide hi
          have HE : Hid ((St.badO zs (j + 1) : Int) = (bo : Int) + 1) := hide (by rw [HBAD.out]; simp [e1])
          clear hr hi
          subst e1
          go_wp2_with (first
            | (go_at_call 23; refine (StS.put (H4.out.grow (balloc (balloc (Below.refl _ _) _) _)) p HS.out (by omega) (St.nmO j) (by simp [St.nmO]) (some ⟨wr.heap.size + 1, 0, none⟩) 1 1 [UInt8.ofNat j] (Arg.madeAt _ _ _ _ _ 1 _ (by simp) HC2.out rfl (by omega)) rfl (by omega) (fun x o e _ hx => by injection e with e; injection e with e _ _; subst e; have := H4.out.lt _ (.inl hx); omega)).mono ?_; rintro e w5 ⟨rfl, S5, D5, h, -⟩; have H5 := hide h; rw [HR.out]; clear h; unfold errR)
            | (go_at_call 16; refine (StS.bytes H5.out (St.nmO j) (by simp [St.nmO])).mono ?_; rintro e w6 ⟨v, rfl, ho, hb⟩; have H6 := hide (H5.out.grow hb); rw [HI.out]; obtain ⟨A6, c6, rfl, -⟩ := own_n ho rfl; have hcell := HCELL.out _ H6.out.below; clear ho hb)
            | (go_at_call 17; refine (is_sent w6 p (HS.out.below H6.out.below) 10 (by omega) 111).mono ?_; rintro e w7 ⟨rfl, hb⟩; have H7 := hide (H6.out.grow hb); clear hb)
            | fail)
          exact ⟨⟨j + 1, S5, D5, by omega, by simp, by rw [HE.out], by rw [HRUN.out]; exact H7.out⟩, by simp [intOf]; omega⟩
        · by_cases e2 : o = 2
          · have e1 : ¬ o = 1 := e1
            have hr : (s4.put (St.nmO j) [UInt8.ofNat j]).1.2 = some 10 := by rw [HPUT.out.2.1]; simp [e2]
            have hi : ((s4.put (St.nmO j) [UInt8.ofNat j]).2.objs (St.nmO j)).isSome = true := by rw [HPUT.out.2.2]; simp [e2]
            have HR := hide hr
            have HI := hide hi
            have HE : Hid ((St.badO zs (j + 1) : Int) = (bo : Int) + 1) := hide (by rw [HBAD.out]; simp [e2])
            clear hr hi
            subst e2
            go_wp2_with (first
              | (go_at_call 23; refine (StS.put (H4.out.grow (balloc (balloc (Below.refl _ _) _) _)) p HS.out (by omega) (St.nmO j) (by simp [St.nmO]) (some ⟨wr.heap.size + 1, 0, none⟩) 1 1 [UInt8.ofNat j] (Arg.madeAt _ _ _ _ _ 1 _ (by simp) HC2.out rfl (by omega)) rfl (by omega) (fun x o e _ hx => by injection e with e; injection e with e _ _; subst e; have := H4.out.lt _ (.inl hx); omega)).mono ?_; rintro e w5 ⟨rfl, S5, D5, h, -⟩; have H5 := hide h; rw [HR.out]; clear h; unfold errR)
              | (go_at_call 16; refine (StS.bytes H5.out (St.nmO j) (by simp [St.nmO])).mono ?_; rintro e w6 ⟨v, rfl, ho, hb⟩; have H6 := hide (H5.out.grow hb); rw [HI.out]; obtain ⟨A6, c6, rfl, -⟩ := own_n ho rfl; have hcell := HCELL.out _ H6.out.below; clear ho hb)
              | (go_at_call 17; refine (is_sent w6 p (HS.out.below H6.out.below) 10 (by omega) 111).mono ?_; rintro e w7 ⟨rfl, hb⟩; have H7 := hide (H6.out.grow hb); clear hb)
              | fail)
            exact ⟨⟨j + 1, S5, D5, by omega, by simp, by rw [HE.out], by rw [HRUN.out]; exact H7.out⟩, by simp [intOf]; omega⟩
          · have e2 : ¬ o = 2 := e2
            have hr : (s4.put (St.nmO j) [UInt8.ofNat j]).1.2 = none := by rw [HPUT.out.2.1]; simp [e1, e2]
            have hi : ((s4.put (St.nmO j) [UInt8.ofNat j]).2.objs (St.nmO j)).isSome = true := by rw [HPUT.out.2.2]; simp [e1]
            have HR := hide hr
            have HI := hide hi
            have HE : Hid ((St.badO zs (j + 1) : Int) = (bo : Int)) := hide (by rw [HBAD.out]; simp [e1, e2])
            clear hr hi
            have b1 : (o == 1) = false := by simpa using e1
            have b2 : (o == 2) = false := by simpa using e2
            clear e1 e2
            go_wp2_with (first
              | (go_at_call 23; refine (StS.put (H4.out.grow (balloc (balloc (Below.refl _ _) _) _)) p HS.out (by omega) (St.nmO j) (by simp [St.nmO]) (some ⟨wr.heap.size + 1, 0, none⟩) 1 1 [UInt8.ofNat j] (Arg.madeAt _ _ _ _ _ 1 _ (by simp) HC2.out rfl (by omega)) rfl (by omega) (fun x o e _ hx => by injection e with e; injection e with e _ _; subst e; have := H4.out.lt _ (.inl hx); omega)).mono ?_; rintro e w5 ⟨rfl, S5, D5, h, -⟩; have H5 := hide h; rw [HR.out]; clear h; unfold errR)
              | (go_at_call 16; refine (StS.bytes H5.out (St.nmO j) (by simp [St.nmO])).mono ?_; rintro e w6 ⟨v, rfl, ho, hb⟩; have H6 := hide (H5.out.grow hb); rw [HI.out]; obtain ⟨A6, c6, rfl, -⟩ := own_n ho rfl; have hcell := HCELL.out _ H6.out.below; clear ho hb)
              | (go_at_call 17; refine (is_nil 111 w6).mono ?_; rintro e w7 ⟨rfl, hb⟩; have H7 := hide (H6.out.grow hb); clear hb)
              | fail)
            exact ⟨⟨j + 1, S5, D5, by omega, by simp, by rw [HE.out], by rw [HRUN.out]; exact H7.out⟩, by simp [intOf]; omega⟩
      · obtain rfl : j = n := by omega
        have hat := HAT.out j (by have := HN.out; omega)
        have hlast := St.last_at zs _ (by rw [HN.out]; exact hat)
        rw [HN.out] at hlast
        have HL := hide hlast
        have HC := hide hat.calls
        have HFA := hide hat.failed
        clear hat hlast
        generalize hro : St.runO zs j = s4 at *
        generalize hbo : St.badO zs j = bo at *
        have ha0 : Arg wr none 0 [] := ⟨by simp, by omega, fun _ => rfl, .inl rfl⟩
        have HA0 := hide ha0
        clear ha0
        go_wp2_with (first
          | (go_at_call 23; refine (StS.put H4.out p HS.out (by omega) [122] (by simp) none 0 0 [] HA0.out rfl (by omega) (fun x o e => by cases e)).mono ?_; rintro e w5 ⟨rfl, S5, D5, h, -⟩; have H5 := hide h; have HF5 := hide h.failedOf; rw [HL.out.1]; rw [HL.out.2] at HF5; clear h; unfold errR)
          | (go_at_call 24; refine (StS.callsOf H4.out).mono ?_; rintro e w6 ⟨rfl, rfl⟩; rw [HC.out])
          | (go_at_call 25; refine HF5.out.mono ?_; rintro e w6 ⟨rfl, rfl⟩)
          | (go_at_call 25; refine (StS.failedOf H4.out).mono ?_; rintro e w6 ⟨rfl, rfl⟩; rw [HFA.out])
          | fail)
        go_ret
        exact ⟨rfl, H5.out.below⟩
  · go_enter Tryd.func4, Tryd.ntmps4
    go_wp2_with (first
      | (go_at_call 9; refine HF.out.mono ?_; rintro e w1 ⟨rfl, hb⟩; have HB1 := hide hb; clear hb)
      | fail)
    go_ret
    exact ⟨rfl, HB1.out⟩
end Go.Proofs.YtipmmmmobopbmaaDoor

namespace Go.Proofs.YtipmmmmobopbmaaDoor.OutcomesLaw
open Go.Proofs.YtipmmmmobopbmaaDoor
open Go.RowKit Go.ChangeShapes Go.WideShapes Go.ChangeAt

set_option maxRecDepth 100000 in
theorem lifted (os : Os) (started : os.Started) (H : Type) (enc : TypeId × Value → H) :
    ReturnsInHanded {} Tryd.checked os 4 .any (fun w args => (Rows.storeOutcomesSpec.pre enc Tryd.prog Tryd.f4 [] false w args ∧ laidMetH Tryd.prog laidErr w) ∧ sizedMet enc Tryd.prog Tryd.f4 (OpenSpec.ofChange Rows.storeOutcomesSpec) false w args)
      (Rows.storeOutcomesSpec.post enc Tryd.prog Tryd.f4 false true false false) := by
  refine returnsInHanded_of_change_and (C := Tryd.checked) (X := fun w _ => laidMetH Tryd.prog laidErr w) (fun _ _ _ hh h => h.of_heap hh) own started (by kernel_rfl) Tryd.func4
    (ChangeSpec.witness_shaped (enc := enc) (C := Tryd.checked) (os := os) (X := fun w _ => laidMetH Tryd.prog laidErr w) false (World.doorLaid Tryd.prog 400 os) #[.slice none 0 0] 8 rfl (World.shaped_of_RefB (by kernel_rfl) (by kernel_rfl)) (by kernel_rfl) (by kernel_rfl) (by kernel_rfl) (door_met_err os _)) ?_
  intro W base args ds gs before hval0 hW _ _ hL _
  have hval : ∀ (j : Nat) t v, Tryd.f4.params[j]? = some t → args[j]? = some v → Value.okWide Tryd.prog W .any base t v := hval0
  have hW' := hW
  obtain ⟨p, q, hA0, hV, rfl, hfz, hnd⟩ := hW
  have hA : DataW.TrodAll enc Tryd.prog W 0 (fun _ => true) true Tryd.f4.params.toList args.toList ds p := hA0
  rw [Tryd.params4] at hA hval
  obtain ⟨v0, vs0, d0, ds0, p0, q0, hargs, rfl, rfl, h0, r0⟩ := trodAll_cons hA
  obtain ⟨rfl, rfl, rfl⟩ := trodAll_nil r0
  obtain rfl : args = #[v0] := by cases args; simp_all
  obtain ⟨rfl, rfl⟩ := trodVars_none hV
  obtain ⟨a0, len0, cap0, rfl⟩ := okWide_slice Tryd.underlying23 (hval 0 23 v0 rfl rfl)
  have k0 := h0
  have lt0 : ∀ x ∈ p0, x.block < W.heap.size := by obtain ⟨m, hm⟩ := k0; exact DataW.trod_lt m _ _ _ hm
  obtain ⟨zs0, rfl, le0, mx0, w0, z0⟩ := ints_of h0
  clear hA0 hval0
  obtain ⟨ps, hsent⟩ := sents_of_err hL
  refine (outcomes_walk W ps hsent a0 cap0 _ zs0 (intsArg_of le0 mx0 w0 z0 (intsCap_of h0)) rfl).mono fun e W' ⟨he, bel⟩ => ?_
  subst he
  exact ⟨_, rfl, _, _, _, [], _, [], hW', trodAll_mk1 (shut_bool Tryd.underlying4 _), (trodAll_cons_mk (Below.trod laidOut (by kernel_rfl) (of_decide_eq_true (by kernel_rfl)) k0 bel lt0) trodAll_mk0), rfl, bel.frame _, fun h => by cases h⟩

theorem row : Rows.StoreOutcomesSaid :=
  OpenClaim.holds_of_wide 4 Tryd.f4 rfl rfl rfl rfl rfl rfl rfl ⟨rfl, rfl, rfl, rfl, rfl⟩ rfl rfl rfl rfl rfl (by kernel_rfl) Tryd.func4 (by kernel_rfl)
    (of_decide_eq_true (by kernel_rfl)) (by unfold Func.isWrapper; first | (rw [if_pos (by decide +kernel)]; kernel_rfl) | (rw [if_neg (by decide +kernel)]; exact ⟨rfl, rfl⟩))
    (fun os started H enc _ => lifted os started H enc)

theorem proved : Rows.StoreOutcomesCardSaid :=
  Claim7.holds_tied_plain_at .later [] _ true _ true
    row (fun _ h => by cases h) (by kernel_rfl) (fun _ h => by cases h) storeOutcomes_row_tie rfl ⟨rfl, rfl⟩ (by kernel_rfl) rfl
    (fun f fn hf hfn => by
      obtain rfl : f = 4 := Option.some.inj ((show Tryd.prog.funcNamed "cordwood/cordwoodlaw11.StoreOutcomes" = some 4 by kernel_rfl).symm.trans hf) |>.symm
      obtain rfl : fn = Tryd.f4 := (Option.some.inj (Tryd.func4.symm.trans hfn)).symm
      exact ⟨by kernel_rfl, fun j t ht => by
        rw [Tryd.params4] at ht
        have hm : t ∈ [23] := by simpa using Array.mem_of_getElem? ht
        have hall : ([23].all fun u => !Tryd.prog.wantsStandIn u) = true := by kernel_rfl
        exact (show Tryd.prog.wantsStandIn t = false by simpa using List.all_eq_true.1 hall t hm)⟩)
    (by kernel_rfl)
end Go.Proofs.YtipmmmmobopbmaaDoor.OutcomesLaw
