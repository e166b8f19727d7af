/-
  EpochEnds, walked.
  EpochEnds: P9.2, for every argument: each epoch that there is ends where the next begins, the last one at the log's end; one that is not there is told as the one ahead. Conditions: none but those of the given row.
-/
import Derived.Test.YtplpakdbahlgaaaDoorE3
import Derived.Deep.LoopGhost
import Derived.Test.YtplpakdbahlgaaaDoorE5
namespace Go.Proofs.YtplpakdbahlgaaaDoor
open Go.RowKit

/-- What an argument's pairs read as, in any world above. -/
theorem ArgP.reads {w : World} {A : Option Addr} {cap : Nat} {l : List Ep.Pr} (h : ArgP w A cap l) : ∀ V, Below w.heap.size w V → ∀ k, k < l.length → ∃ g f, A = some ⟨g, f, none⟩ ∧ V.cell? ⟨g, f + k * 2, none⟩ = some (.int .i64 (Ep.pr l k).ep) ∧ V.cell? ⟨g, f + k * 2 + 1, none⟩ = some (.int .i64 (Ep.pr l k).st) := fun V hb k hk => by
  obtain ⟨g, f, e, _, k1, k2⟩ := (h.at_.below hb).at_ k hk
  exact ⟨g, f, e, k1, k2⟩

set_option maxRecDepth 100000 in
set_option maxHeartbeats 2000000 in
theorem ends_any (w : World) (p : Nat → Addr) (hs : Sents3 w p) (A : Option Addr) (cap n : Nat) (l : List Ep.Pr) (e z : Int) (hn : l.length = n) (ha : ArgP w A cap l) :
    Calls Tryd.prog 8 #[.slice A n cap, .int .i64 e, .int .i64 z] w fun r w' => r = .returned (.bool true) ∧ Below w.heap.size w w' := by
  have HF := hide (first9_any w p hs)
  have hle : n ≤ cap := hn ▸ ha.at_.le
  cases hb : Ep.bad l with
  | some j =>
    have HN := hide (fun V (hbv : Below w.heap.size w V) => epNew_bad A cap n j l V p hn (hs.below hbv) (ha.below hbv).at_ ha.nil hb)
    have k1 := fun W => neq_nilD (p j) W
    unfold errV at *
    clear hs ha hb hn
    by_cases h20 : 20 < n
    · have d0 : decide ((20 : Int) < n) = true := decide_eq_true (by omega)
      go_enter Tryd.func8, Tryd.ntmps8
      go_wp2_with (first
        | (go_at_call 10; refine HF.out.mono ?_; rintro e w2 ⟨rfl, hb2⟩; have HB2 := hide hb2; clear hb2)
        | (go_at_call 11; refine (HN.out _ HB2.out).mono ?_; rintro e w3 ⟨rfl, hb3⟩; have HB3 := hide (HB2.out.trans (hb3.mono HB2.out.size)); clear hb3)
        | fail)
      go_ret
      exact ⟨rfl, HB3.out⟩
    · have d0 : decide ((20 : Int) < n) = false := decide_eq_false (by omega)
      go_enter Tryd.func8, Tryd.ntmps8
      go_wp2_with (first
        | (go_at_call 10; refine HF.out.mono ?_; rintro e w2 ⟨rfl, hb2⟩; have HB2 := hide hb2; clear hb2)
        | (go_at_call 11; refine (HN.out _ HB2.out).mono ?_; rintro e w3 ⟨rfl, hb3⟩; have HB3 := hide (HB2.out.trans (hb3.mono HB2.out.size)); clear hb3)
        | fail)
      go_ret
      exact ⟨rfl, HB3.out⟩
  | none =>
    have hok := Ep.bad_none.1 hb
    have HN := hide (fun V (hbv : Below w.heap.size w V) => epNew_ok A cap n l V p hn (hs.below hbv) (ha.below hbv).at_ ha.nil hok)
    by_cases h20 : 20 < n
    · have d0 : decide ((20 : Int) < n) = true := decide_eq_true (by omega)
      clear hs ha hb hn hok
      go_enter Tryd.func8, Tryd.ntmps8
      go_wp2_with (first
        | (go_at_call 10; refine HF.out.mono ?_; rintro e w2 ⟨rfl, hb2⟩; have HB2 := hide hb2; clear hb2)
        | (go_at_call 11; refine (HN.out _ HB2.out).mono ?_; rintro e w3 ⟨X, rfl, -, hb3⟩; have HB3 := hide (HB2.out.trans (hb3.mono HB2.out.size)); clear hb3)
        | fail)
      go_ret
      exact ⟨rfl, HB3.out⟩
    · have d0 : decide ((20 : Int) < n) = false := decide_eq_false (by omega)
      have hn20 : n ≤ 20 := by omega
      have HAR := hide ha.reads
      have HOK := hide hok
      have HLN := hide hn
      clear hs ha hb hn hok h20
      go_enter Tryd.func8, Tryd.ntmps8
      go_wp2_with (first
        | (go_at_call 10; refine HF.out.mono ?_; rintro e w2 ⟨rfl, hb2⟩; have HB2 := hide hb2; clear hb2)
        | (go_at_call 11; refine (HN.out _ HB2.out).mono ?_; rintro e w3 ⟨X, rfl, hx, hb3⟩; have HX := hide hx; have HB3 := hide (HB2.out.trans (hb3.mono HB2.out.size)); clear hb3 hx)
        | fail)
      go_loopw [10] (fun kv wq => ∃ i : Nat, i ≤ n ∧ kv = .int .i64 i ∧ Below w3.heap.size w3 wq) (fun kv _ => n - (intOf kv).toNat)
      case atStart => exact ⟨0, Nat.zero_le _, rfl, Below.refl _ _⟩
      case round =>
        obtain ⟨i, hi, rfl, hb⟩ := hrel
        have HB := hide hb
        have HBW : Hid (Below w.heap.size w wr) := hide (HB3.out.trans (hb.mono HB3.out.size))
        clear hb
        by_cases hin : i < n
        · have hlt : decide ((i : Int) < n) = true := decide_eq_true (by omega)
          obtain ⟨g, f, rfl, k1, k2⟩ := HAR.out wr HBW.out i (by rw [HLN.out]; exact hin)
          have HE := hide (epEnd_any X l _ (Ep.pr l i).ep z wr (HX.out.below HB.out) HOK.out)
          rw [Ep.end_at HOK.out.rise (by rw [HLN.out]; exact hin)] at HE
          simp only at HE
          have hwi : IntKind.i64.wrap ((i : Int) + 1) = (i : Int) + 1 := by rw [IntKind.wrap_i64]; omega
          by_cases hi1 : i + 1 < n
          · have hlt1 : decide ((i : Int) + 1 < n) = true := decide_eq_true (by omega)
            rw [if_pos (by rw [HLN.out]; exact hi1)] at HE
            obtain ⟨g', f', e', k3, k4⟩ := HAR.out wr HBW.out (i + 1) (by rw [HLN.out]; exact hi1)
            injection e' with e'; injection e' with e1 e2; subst e1 e2
            generalize (Ep.pr l i).ep = pe at *
            generalize (Ep.pr l (i + 1)).st = ps at *
            have b1 : (pe != pe) = false := bne_self_eq_false pe
            have b2 : (ps != ps) = false := bne_self_eq_false ps
            go_wp2_with (first
              | (go_at_call 37; refine HE.out.mono ?_; rintro e w4 ⟨rfl, hb4⟩; have k12 := (hb4.cell (World.block_lt_of_cell? _ _ k1)).trans k1; have k42 := (hb4.cell (World.block_lt_of_cell? _ _ k4)).trans k4; have HB4 := hide (HB.out.trans (hb4.mono HB.out.size)); clear hb4)
              | fail)
            go_roundw
            case rel => exact ⟨i + 1, by omega, by go_num, HB4.out⟩
            case measure => simp [intOf]; omega
          · have hlt1 : decide ((i : Int) + 1 < n) = false := decide_eq_false (by omega)
            rw [if_neg (by rw [HLN.out]; exact hi1)] at HE
            generalize (Ep.pr l i).ep = pe at *
            have b1 : (pe != pe) = false := bne_self_eq_false pe
            have b2 : (z != z) = false := bne_self_eq_false z
            go_wp2_with (first
              | (go_at_call 37; refine HE.out.mono ?_; rintro e w4 ⟨rfl, hb4⟩; have k12 := (hb4.cell (World.block_lt_of_cell? _ _ k1)).trans k1; have HB4 := hide (HB.out.trans (hb4.mono HB.out.size)); clear hb4)
              | fail)
            go_roundw
            case rel => exact ⟨i + 1, by omega, by go_num, HB4.out⟩
            case measure => simp [intOf]; omega
        · obtain rfl : i = n := by omega
          have hlt : decide ((i : Int) < i) = false := decide_eq_false (by omega)
          have HE := hide (epEnd_any X l _ e z wr (HX.out.below HB.out) HOK.out)
          by_cases h0 : i = 0
          · have z0 : ((i : Int) == 0) = true := by rw [beq_iff_eq]; omega
            rw [Ep.end_none HOK.out.rise e z (.inl (by rw [HLN.out]; exact h0))] at HE
            clear h0
            go_wp2_with (first
              | (go_at_call 37; refine HE.out.mono ?_; rintro e w4 ⟨rfl, hb4⟩; have HB4 := hide (HBW.out.trans (hb4.mono HBW.out.size)); clear hb4)
              | fail)
            go_ret
            exact ⟨rfl, HB4.out⟩
          · have z0 : ((i : Int) == 0) = false := by rw [beq_eq_false_iff_ne]; omega
            have hpos : 0 < i := by omega
            obtain ⟨g, f, rfl, k1, -⟩ := HAR.out wr HBW.out 0 (by rw [HLN.out]; omega)
            rw [Nat.zero_mul, Nat.add_zero] at k1
            by_cases h1 : e < (Ep.pr l 0).ep
            · have d1 : decide (e < (Ep.pr l 0).ep) = true := decide_eq_true h1
              rw [Ep.end_none HOK.out.rise e z (.inr h1)] at HE
              generalize (Ep.pr l 0).ep = pe at *
              clear h0 h1
              go_wp2_with (first
                | (go_at_call 37; refine HE.out.mono ?_; rintro e w4 ⟨rfl, hb4⟩; have k12 := (hb4.cell (World.block_lt_of_cell? _ _ k1)).trans k1; have HB4 := hide (HBW.out.trans (hb4.mono HBW.out.size)); clear hb4)
                | fail)
              go_ret
              exact ⟨rfl, HB4.out⟩
            · have d1 : decide (e < (Ep.pr l 0).ep) = false := decide_eq_false h1
              obtain ⟨t1, t2, t3⟩ := Ep.end_some HOK.out.rise e z (by rw [HLN.out]; omega) (by omega)
              have HT := hide t3
              generalize Ep.end_ l e z = E at *
              obtain ⟨a, b, c⟩ := E
              simp only at t1 t2 HT HE
              subst t1
              have d2 : decide (a ≤ e) = true := decide_eq_true t2
              generalize (Ep.pr l 0).ep = pe at *
              clear h0 h1 t2 t3
              go_wp2_with (first
                | (go_at_call 37; refine HE.out.mono ?_; rintro e w4 ⟨rfl, hb4⟩; have k12 := (hb4.cell (World.block_lt_of_cell? _ _ k1)).trans k1; have HB4 := hide (HBW.out.trans (hb4.mono HBW.out.size)); clear hb4)
                | fail)
              go_loopw [18] (fun kv wq => ∃ j : Nat, j ≤ i ∧ kv = .int .i64 j ∧ Below w.heap.size w wq) (fun kv _ => i - (intOf kv).toNat)
              case atStart => exact ⟨0, Nat.zero_le _, rfl, HB4.out⟩
              case round =>
                obtain ⟨j, hj, rfl, hb⟩ := hrel
                have HBJ := hide hb
                clear hb
                by_cases hji : j < i
                · obtain ⟨g', f', e', k3, -⟩ := HAR.out _ HBJ.out j (by rw [HLN.out]; exact hji)
                  injection e' with e'; injection e' with e1 e2; subst e1 e2
                  have hlt2 : decide ((j : Int) < i) = true := decide_eq_true (by omega)
                  have HTJ := hide (HT.out j (by rw [HLN.out]; exact hji))
                  generalize (Ep.pr l j).ep = pj at *
                  by_cases q1 : pj ≤ e
                  · have d3 : decide (pj ≤ e) = true := decide_eq_true q1
                    have d4 : decide (a < pj) = false := decide_eq_false (by have := HTJ.out q1; omega)
                    clear q1
                    go_wp2_with fail
                    go_roundw
                    case rel => exact ⟨j + 1, by omega, by go_num, HBJ.out⟩
                    case measure => simp [intOf]; omega
                  · have d3 : decide (pj ≤ e) = false := decide_eq_false q1
                    clear q1
                    go_wp2_with fail
                    go_roundw
                    case rel => exact ⟨j + 1, by omega, by go_num, HBJ.out⟩
                    case measure => simp [intOf]; omega
                · have hlt2 : decide ((j : Int) < i) = false := decide_eq_false (by omega)
                  go_wp2_with fail
                  go_ret
                  exact ⟨rfl, HBJ.out⟩
end Go.Proofs.YtplpakdbahlgaaaDoor

namespace Go.Proofs.YtplpakdbahlgaaaDoor.EndsLaw
open Go.Proofs.YtplpakdbahlgaaaDoor
open Go.RowKit Go.ChangeShapes Go.WideShapes Go.ChangeAt

set_option maxRecDepth 100000 in
theorem lifted (os : Os) (started : os.Started) (H : Type) (enc : TypeId × Value → H) :
    ReturnsInHanded {} Tryd.checked os 8 .any (fun w args => (Rows.epochEndsSpec.pre enc Tryd.prog Tryd.f8 [] false w args ∧ laidMetH Tryd.prog laidE3 w) ∧ sizedMet enc Tryd.prog Tryd.f8 (OpenSpec.ofChange Rows.epochEndsSpec) false w args)
      (Rows.epochEndsSpec.post enc Tryd.prog Tryd.f8 false true false false) := by
  refine returnsInHanded_of_change_and (C := Tryd.checked) (X := fun w _ => laidMetH Tryd.prog laidE3 w) (fun _ _ _ hh h => h.of_heap hh) own started (by kernel_rfl) Tryd.func8
    (ChangeSpec.witness_shaped (enc := enc) (C := Tryd.checked) (os := os) (X := fun w _ => laidMetH Tryd.prog laidE3 w) false (World.doorLaid Tryd.prog 400 os) #[.slice none 0 0, .int .i64 0, .int .i64 0] 8 rfl (World.shaped_of_RefB (by kernel_rfl) (by kernel_rfl)) (by kernel_rfl) (by kernel_rfl) (by kernel_rfl) (door_met_e3 os _)) ?_
  intro W base args ds gs before hval0 hW _ _ hL _
  have hval : ∀ (j : Nat) t v, Tryd.f8.params[j]? = some t → args[j]? = some v → Value.okWide Tryd.prog W .any base t v := hval0
  have hW' := hW
  obtain ⟨p, q, hA0, hV, rfl, hfz, hnd⟩ := hW
  have hA : DataW.TrodAll enc Tryd.prog W 0 (fun _ => true) true Tryd.f8.params.toList args.toList ds p := hA0
  rw [Tryd.params8] at hA hval
  obtain ⟨v0, vs0, d0, ds0, p0, q0, hargs, rfl, rfl, h0, r0⟩ := trodAll_cons hA
  obtain ⟨v1, vs1, d1, ds1, p1, q1, rfl, rfl, rfl, h1, r1⟩ := trodAll_cons r0
  obtain ⟨v2, vs2, d2, ds2, p2, q2, rfl, rfl, rfl, h2, r2⟩ := trodAll_cons r1
  obtain ⟨rfl, rfl, rfl⟩ := trodAll_nil r2
  obtain rfl : args = #[v0, v1, v2] := by cases args; simp_all
  obtain ⟨rfl, rfl⟩ := trodVars_none hV
  obtain ⟨a0, len0, cap0, rfl⟩ := okWide_slice Tryd.underlying22 (hval 0 22 v0 rfl rfl)
  have k0 := h0
  have lt0 : ∀ x ∈ p0, x.block < W.heap.size := by obtain ⟨m, hm⟩ := k0; exact DataW.trod_lt m _ _ _ hm
  obtain ⟨l0, rfl, pa0⟩ := pairs_of h0
  obtain ⟨a1, rfl, rfl, rfl, w1⟩ := open_int Tryd.underlying3 (hval 1 3 v1 rfl rfl) h1
  have hb1 := bounds_i64 w1
  obtain ⟨a2, rfl, rfl, rfl, w2⟩ := open_int Tryd.underlying2 (hval 2 2 v2 rfl rfl) h2
  have hb2 := bounds_i64 w2
  clear hA0 hval0
  obtain ⟨ps, hsent⟩ := sents_of_e3 hL
  refine (ends_any W ps hsent a0 cap0 l0.length l0 a1 a2 rfl pa0).mono fun e W' ⟨he, bel⟩ => ?_
  subst he
  exact ⟨_, rfl, _, _, _, [], _, [], hW', trodAll_mk1 (shut_bool Tryd.underlying4 _), (trodAll_cons_mk (Below.trod laidOut (by kernel_rfl) (of_decide_eq_true (by kernel_rfl)) k0 bel lt0) (trodAll_cons_mk (shut_int Tryd.underlying3 w1) (trodAll_cons_mk (shut_int Tryd.underlying2 w2) trodAll_mk0))), rfl, bel.frame _, fun h => by cases h⟩

theorem row : Rows.EpochEndsSaid :=
  OpenClaim.holds_of_wide 8 Tryd.f8 rfl rfl rfl rfl rfl rfl rfl ⟨rfl, rfl, rfl, rfl, rfl⟩ rfl rfl rfl rfl rfl (by kernel_rfl) Tryd.func8 (by kernel_rfl)
    (of_decide_eq_true (by kernel_rfl)) (by unfold Func.isWrapper; first | (rw [if_pos (by decide +kernel)]; kernel_rfl) | (rw [if_neg (by decide +kernel)]; exact ⟨rfl, rfl⟩))
    (fun os started H enc _ => lifted os started H enc)

theorem proved : Rows.EpochEndsCardSaid :=
  Claim7.holds_tied_plain_at .later [] _ true _ true
    row (fun _ h => by cases h) (by kernel_rfl) (fun _ h => by cases h) epochEnds_row_tie rfl ⟨rfl, rfl⟩ (by kernel_rfl) rfl
    (fun f fn hf hfn => by
      obtain rfl : f = 8 := Option.some.inj ((show Tryd.prog.funcNamed "cordwood/cordwoodlaw9.EpochEnds" = some 8 by kernel_rfl).symm.trans hf) |>.symm
      obtain rfl : fn = Tryd.f8 := (Option.some.inj (Tryd.func8.symm.trans hfn)).symm
      exact ⟨by kernel_rfl, fun j t ht => by
        rw [Tryd.params8] at ht
        have hm : t ∈ [22, 3, 2] := by simpa using Array.mem_of_getElem? ht
        have hall : ([22, 3, 2].all fun u => !Tryd.prog.wantsStandIn u) = true := by kernel_rfl
        exact (show Tryd.prog.wantsStandIn t = false by simpa using List.all_eq_true.1 hall t hm)⟩)
    (by kernel_rfl)
end Go.Proofs.YtplpakdbahlgaaaDoor.EndsLaw
