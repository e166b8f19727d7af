/-
  EpochLeads, plain: the lineage as its epochs begin, one behind the other.
  EpochLeads, walked.
  EpochLeads: P9.1, for every argument: epochs that begin one behind the other are there as they began; an elder one is refused. Conditions: none but those of the given row.
-/
import Derived.Test.YtplpakdbahlgaaaDoorE3
import Derived.Test.YtplpakdbahlgaaaDoorE4
import Derived.Test.YtplpakdbahlgaaaDoorE6
import Derived.Deep.LoopGhost
import Derived.Test.YtplpakdbahlgaaaDoorE7
namespace Go.Proofs.YtplpakdbahlgaaaDoor
namespace Ep

/-- Lineage, last epoch, offset. -/
structure Ld where
  l : List Pr
  top : Int
  off : Int
noncomputable def Ld.step (s : Ld) (z : Int) : Ld := ⟨(begin s.l (z % 100) s.off).2, if z % 100 < s.top then s.top else z % 100, s.off + (Int.tdiv z 100) % 3⟩
noncomputable def ld (zs : List Int) : Nat → Ld
  | 0 => ⟨[], -1, 0⟩
  | i + 1 => (ld zs i).step (zs.getD i 0)
structure Ld.Inv (s : Ld) (i : Nat) : Prop where
  ok : Ok s.l
  len : s.l.length ≤ i
  at0 : 0 ≤ s.off ∧ s.off ≤ 3 * i
  emp : s.l = [] → s.top = -1
  ful : s.l ≠ [] → s.top = (Ep.last s.l).ep ∧ (Ep.last s.l).st ≤ s.off
  lo : -1 ≤ s.top ∧ s.top < 100
theorem last_push (l : List Pr) (p : Pr) : last (l ++ [p]) = p := by
  unfold last
  rw [pr_right (by simp)]
  simp [pr]
theorem Ld.Inv.round {s : Ld} {i : Nat} (h : s.Inv i) (hi : i < 60) (z : Int) :
    (begin s.l (z % 100) s.off).1 = (if z % 100 < s.top then some 13 else none) ∧ (s.step z).Inv (i + 1) ∧ (s.step z).l ≠ [] ∧ 0 ≤ (s.step z).top ∧ (Ep.last (s.step z).l).ep = (s.step z).top ∧ Ep.at_ (s.step z).l s.off = ((s.step z).top, true) := by
  have hm0 := Int.emod_nonneg z (show (100 : Int) ≠ 0 by omega)
  have hm1 := Int.emod_lt_of_pos z (show (0 : Int) < 100 by omega)
  have hd0 := Int.emod_nonneg (Int.tdiv z 100) (show (3 : Int) ≠ 0 by omega)
  have hd1 := Int.emod_lt_of_pos (Int.tdiv z 100) (show (0 : Int) < 3 by omega)
  obtain ⟨l, la, at0⟩ := s
  obtain ⟨hok, hlen, hat, hnone, hsome, hlo⟩ := h
  simp only at hok hlen hat hnone hsome hlo
  have hr : right ⟨z % 100, at0⟩ := ⟨⟨hm0, by show z % 100 ≤ _; omega⟩, hat.1, by show at0 ≤ _; omega⟩
  unfold Ld.step
  simp only
  generalize z % 100 = n at *
  generalize (Int.tdiv z 100) % 3 = d at *
  have hok' := hok.begin n at0
  -- the lineage, and what is said of it
  have key : (begin l n at0).1 = (if n < la then some 13 else none) ∧ (begin l n at0).2 ≠ [] ∧ (Ep.last (begin l n at0).2).ep = (if n < la then la else n) ∧ (Ep.last (begin l n at0).2).st ≤ at0 ∧ (begin l n at0).2.length ≤ i + 1 := by
    unfold begin
    rw [if_neg (fun k => k hr)]
    by_cases h0 : l = []
    · rw [if_pos h0, hnone h0, if_neg (by omega), if_neg (by omega)]
      exact ⟨rfl, by simp, rfl, Int.le_refl _, by simp⟩
    · rw [if_neg h0]
      obtain ⟨h1, h2⟩ := hsome h0
      rw [← h1]
      by_cases h3 : n < la
      · rw [if_pos h3, if_pos h3, if_pos h3]
        exact ⟨rfl, h0, h1.symm, h2, by simp only; omega⟩
      · rw [if_neg h3, if_neg h3, if_neg h3]
        by_cases h4 : n = la
        · rw [if_pos h4]
          exact ⟨rfl, h0, by rw [h4]; exact h1.symm, h2, by simp only; omega⟩
        · rw [if_neg h4, if_neg (by omega), if_neg (by omega)]
          by_cases h5 : at0 = (Ep.last l).st
          · rw [if_pos h5]
            refine ⟨rfl, by simp, by rw [last_push], by rw [last_push]; exact Int.le_refl _, ?_⟩
            simp only [List.length_append, List.length_cons, List.length_nil, len_cutEnd]
            have := ahead_le l at0; omega
          · rw [if_neg h5]
            refine ⟨rfl, by simp, by rw [last_push], by rw [last_push]; exact Int.le_refl _, by simp; omega⟩
  obtain ⟨k1, k2, k3, k4, k5⟩ := key
  have hpos := List.length_pos_iff.2 k2
  refine ⟨k1, ⟨hok', k5, ⟨by show 0 ≤ at0 + d; omega, by show at0 + d ≤ _; omega⟩, fun k => absurd k k2, fun _ => ⟨k3.symm, Int.le_trans k4 (show at0 ≤ at0 + d by omega)⟩, by simp only; split <;> omega⟩, k2, by split <;> omega, k3, ?_⟩
  unfold Ep.at_
  have hu : upto (begin l n at0).2 at0 = (begin l n at0).2.length := upto_eq _ _ (Nat.le_refl _) fun j hj => by
    have := (hok'.rise.le (i := j) (j := (begin l n at0).2.length - 1) (by omega) (by omega)).2
    unfold last at k4
    omega
  rw [hu, if_neg (by omega)]
  unfold last at k3
  rw [k3]
theorem ld_inv (zs : List Int) : ∀ i, i ≤ 60 → (ld zs i).Inv i
  | 0, _ => ⟨Ok.nil, Nat.le_refl _, ⟨Int.le_refl _, by simp [ld]⟩, fun _ => rfl, fun h => absurd rfl h, by simp [ld]⟩
  | i + 1, h => ((ld_inv zs i (by omega)).round (by omega) _).2.1
end Ep
end Go.Proofs.YtplpakdbahlgaaaDoor

namespace Go.Proofs.YtplpakdbahlgaaaDoor
open Go.RowKit

instance sents4_all (w : World) (p : Nat → Addr) : Coe (SentsOn (fun j => j < 19) w p) (SentsOn (fun j => j = 2 ∨ j = 3 ∨ j = 4 ∨ j = 13) w p) := ⟨fun h => h.mono fun j hj => by omega⟩

theorem tdiv_bd (z : Int) (h : -9223372036854775808 ≤ z ∧ z ≤ 9223372036854775807) : -9223372036854775808 ≤ Int.tdiv z 100 ∧ Int.tdiv z 100 ≤ 9223372036854775807 := by
  rcases Int.le_total 0 z with k | k
  · rw [Int.tdiv_eq_ediv_of_nonneg k]; omega
  · have e : Int.tdiv z 100 = -((-z) / 100) := by
      rw [← Int.tdiv_eq_ediv_of_nonneg (show 0 ≤ -z by omega), Int.neg_tdiv, Int.neg_neg]
    rw [e]; omega
theorem Lns.at2 {w0 w : World} {L : List (Nat × List Ep.Pr)} {R : List (Option Addr × Nat × List Ep.Pr)} {i X : Nat} {l : List Ep.Pr} (h : Lns w0 L R w) (hx : L[i]? = some (X, l)) (o : Int) :
    Calls Tryd.prog 36 #[.pointer (some ⟨X, 0, none⟩), .int .i64 o] w fun e w' => e = .returned (.tuple #[.int .i64 (Ep.at_ l o).1, .bool (Ep.at_ l o).2]) ∧ Lns w0 L R w' ∧ Below w.heap.size w w' := by
  obtain ⟨S, hS, hok⟩ := h.get hx
  refine (epAt_any X l S o w hS hok).mono ?_
  rintro e w' ⟨rfl, hb⟩
  exact ⟨rfl, h.below hb, hb⟩

set_option maxRecDepth 100000 in
set_option maxHeartbeats 4000000 in
theorem leads_any (w : World) (p : Nat → Addr) (hs : Sents w p) (A : Option Addr) (cap n : Nat) (zs : List Int) (hn : zs.length = n) (hc : n ≤ cap) (hA : Ints w A zs) (hz : ∀ k, k < n → -9223372036854775808 ≤ zs.getD k 0 ∧ zs.getD k 0 ≤ 9223372036854775807) :
    Calls Tryd.prog 6 #[.slice A n cap] w fun r w' => r = .returned (.bool true) ∧ Below w.heap.size w w' := by
  have HF := hide (first9_any w p hs)
  have HS := hide hs
  have HZ := hide hz
  have HLN := hide hn
  have HA := hide hA
  by_cases h60 : 60 < n
  · have d0 : decide ((60 : Int) < n) = true := decide_eq_true (by omega)
    clear hA hz hn hs
    go_enter Tryd.func6, Tryd.ntmps6
    go_wp2_with (first
      | (go_at_call 10; refine HF.out.mono ?_; rintro e w2 ⟨rfl, hb2⟩; have HB2 := hide hb2; clear hb2)
      | fail)
    go_ret
    exact ⟨rfl, HB2.out⟩
  · have d0 : decide ((60 : Int) < n) = false := decide_eq_false (by omega)
    have hn60 : n ≤ 60 := by omega
    have HNW := hide (fun V (hb : Below w.heap.size w V) => epNew_ok none 0 0 [] V p rfl (hs.below hb) (PrAt.nil V none 0 (by omega)) (fun _ => ⟨rfl, rfl⟩) Ep.Ok.nil)
    have kl := fun X W => run_eql_line X W
    clear hA hz hn hs h60
    go_enter Tryd.func6, Tryd.ntmps6
    go_wp2_with (first
      | (go_at_call 10; refine HF.out.mono ?_; rintro e w2 ⟨rfl, hb2⟩; have HB2 := hide hb2; clear hb2)
      | (go_at_call 11; refine (HNW.out _ HB2.out).mono ?_; rintro e w3 ⟨X, rfl, hx, hb3⟩; have I3 : Hid (Lns w [(X, [])] [] w3) := hide ((Lns.nil HB2.out).add hb3 hx Ep.Ok.nil); clear hb3 hx)
      | fail)
    go_loopw [6, 7, 8] (fun av lv iv wr => ∃ i : Nat, i ≤ n ∧ av = .int .i64 (Ep.ld zs i).off ∧ lv = .int .i64 (Ep.ld zs i).top ∧ iv = .int .i64 i ∧ Lns w [(X, (Ep.ld zs i).l)] [] wr) (fun _ _ iv _ => n - (intOf iv).toNat)
    case atStart => exact ⟨0, Nat.zero_le _, rfl, rfl, rfl, I3.out⟩
    case round =>
      obtain ⟨i, hi, rfl, rfl, rfl, hI⟩ := hrel
      have I := hide hI
      clear hI
      by_cases hin : i < n
      · have hlt : decide ((i : Int) < n) = true := decide_eq_true (by omega)
        obtain ⟨b, f, rfl, hbl, hcell⟩ : ∃ b f, A = some ⟨b, f, none⟩ ∧ b < w.heap.size ∧ w.cell? ⟨b, f + i, none⟩ = some (.int .i64 (zs.getD i 0)) := by
          rcases HA.out with e | ⟨b, f, e, hb, hc'⟩
          · have := HLN.out; rw [e] at this; simp at this; omega
          · exact ⟨b, f, e, hb, hc' i (by rw [HLN.out]; exact hin)⟩
        have cc0 := (I.out.bel.cell (p := ⟨b, f + i, none⟩) hbl).trans hcell
        have hzb := HZ.out i hin
        have HCE := hide (And.intro hbl hcell)
        obtain ⟨r1, r2, r3, r4, r5, r6⟩ := (Ep.ld_inv zs i (by omega)).round (by omega) (zs.getD i 0)
        have hinv := Ep.ld_inv zs i (by omega)
        have hoff : Hid (Ep.ld zs (i + 1) = (Ep.ld zs i).step (zs.getD i 0)) := hide rfl
        have hat := hinv.at0
        have htop := hinv.lo
        generalize hz0 : zs.getD i 0 = z at *
        have HN1 := hide (fun V => number_any z 100 V (by omega) (by omega) hzb.1 hzb.2)
        have htd : -9223372036854775808 ≤ Int.tdiv z 100 ∧ Int.tdiv z 100 ≤ 9223372036854775807 := tdiv_bd z hzb
        have HN2 := hide (fun V => number_any (Int.tdiv z 100) 3 V (by omega) (by omega) htd.1 htd.2)
        have hd0 := Int.emod_nonneg (Int.tdiv z 100) (show (3 : Int) ≠ 0 by omega)
        have hd1 := Int.emod_lt_of_pos (Int.tdiv z 100) (show (0 : Int) < 3 by omega)
        have hwq : IntKind.i64.wrap (Int.tdiv z 100) = Int.tdiv z 100 := by rw [IntKind.wrap_i64]; omega
        have hwo : IntKind.i64.wrap ((Ep.ld zs i).off + Int.tdiv z 100 % 3) = (Ep.ld zs (i + 1)).off := by rw [hoff.out, IntKind.wrap_i64]; show _ = (Ep.ld zs i).off + Int.tdiv z 100 % 3; omega
        have HL1 : Hid ((Ep.begin (Ep.ld zs i).l (z % 100) (Ep.ld zs i).off).2 = (Ep.ld zs (i + 1)).l) := hide (by rw [hoff.out]; rfl)
        have HT1 : Hid ((Ep.ld zs (i + 1)).top = if z % 100 < (Ep.ld zs i).top then (Ep.ld zs i).top else z % 100) := hide (by rw [hoff.out]; rfl)
        rw [← hoff.out] at r3 r4 r5 r6
        have hpos := List.length_pos_iff.2 r3
        have HBG : Hid (∀ V, Lns w [(X, (Ep.ld zs i).l)] [] V → Calls Tryd.prog 18 #[.pointer (some ⟨X, 0, none⟩), .int .i64 (z % 100), .int .i64 (Ep.ld zs i).off] V fun e w' => e = .returned (errR p (if z % 100 < (Ep.ld zs i).top then some 13 else none)) ∧ Lns w [(X, (Ep.ld zs (i + 1)).l)] [] w') := hide fun V hV => by
          have := hV.begin (i := 0) p HS.out rfl (z % 100) (Ep.ld zs i).off
          rw [r1, HL1.out] at this
          exact this
        have HLA : Hid (∀ V, Lns w [(X, (Ep.ld zs (i + 1)).l)] [] V → Calls Tryd.prog 34 #[.pointer (some ⟨X, 0, none⟩)] V fun e w' => ∃ ls, e = .returned (.tuple #[.agg #[.int .i64 (Ep.ld zs (i + 1)).top, .int .i64 ls], .bool true]) ∧ Lns w [(X, (Ep.ld zs (i + 1)).l)] [] w') := hide fun V hV => by
          have := hV.last (i := 0) rfl
          rw [decide_eq_true hpos] at this
          refine this.mono ?_
          rintro e w' ⟨rfl, h⟩
          exact ⟨_, by rw [← r5], h⟩
        have HAT : Hid (∀ V, Lns w [(X, (Ep.ld zs (i + 1)).l)] [] V → Calls Tryd.prog 36 #[.pointer (some ⟨X, 0, none⟩), .int .i64 (Ep.ld zs i).off] V fun e w' => e = .returned (.tuple #[.int .i64 (Ep.ld zs (i + 1)).top, .bool true]) ∧ Lns w [(X, (Ep.ld zs (i + 1)).l)] [] w' ∧ Below V.heap.size V w') := hide fun V hV => by
          have := hV.at2 (i := 0) rfl (Ep.ld zs i).off
          rw [r6] at this
          exact this
        have HIS : Hid (∀ V, Lns w [(X, (Ep.ld zs (i + 1)).l)] [] V → Calls Tryd.prog 13 #[errV (p 13), .int .i64 114] V fun e w' => e = .returned (.bool true) ∧ Lns w [(X, (Ep.ld zs (i + 1)).l)] [] w') := hide fun V hV => by
          have := is_sent V p (HS.out.below hV.bel) 13 (by omega) 114
          refine this.mono ?_
          rintro e w' ⟨rfl, hb⟩
          exact ⟨by simp, hV.below hb⟩
        have d4 : decide ((0 : Int) ≤ (Ep.ld zs (i + 1)).top) = true := decide_eq_true r4
        clear hoff r1 r2 r3 r4 r5 r6 hinv hat hd0 hd1 htd hpos hzb hcell
        generalize hm : z % 100 = m at *
        obtain ⟨off, hoff⟩ : ∃ off, off = (Ep.ld zs i).off := ⟨_, rfl⟩
        obtain ⟨top, htp⟩ : ∃ top, top = (Ep.ld zs i).top := ⟨_, rfl⟩
        obtain ⟨top1, htp1⟩ : ∃ top, top = (Ep.ld zs (i + 1)).top := ⟨_, rfl⟩
        obtain ⟨l0, hl0⟩ : ∃ l, l = (Ep.ld zs i).l := ⟨_, rfl⟩
        obtain ⟨l1, hl1⟩ : ∃ l, l = (Ep.ld zs (i + 1)).l := ⟨_, rfl⟩
        rw [← hoff, ← htp, ← hl1, ← hl0] at HBG
        rw [← hl1, ← htp1] at HLA
        rw [← hl1, ← htp1, ← hoff] at HAT
        rw [← hl1] at HIS
        rw [← hl0] at I
        rw [← htp1] at HT1 d4
        rw [← htp] at HT1
        rw [← hoff] at hwo
        rw [← hoff, ← htp]
        have HO1 := hide hl1
        have HTP1 := hide htp1
        clear htp htop hl0 hl1 HL1 hm hz0 htp1 hoff
        have bt : (top1 != top1) = false := bne_self_eq_false _
        by_cases hmt : m < top
        · rw [if_pos hmt] at HBG HT1
          simp only [errR] at HBG
          have d3 : decide (top ≤ m) = false := decide_eq_false (by omega)
          have ht1 := HT1.out
          clear hmt HT1
          subst ht1
          have k1 := fun W => eql_nil (p 13) W
          have k2 := fun W => neq_nilD (p 13) W
          unfold errV at *
          go_wp2_with (first
            | (go_at_call 35; have _t := J1; refine (HN2.out _).mono ?_; rintro e w3 ⟨rfl, e⟩; subst e)
            | (go_at_call 35; refine (HN1.out _).mono ?_; rintro e w3 ⟨rfl, e⟩; subst e)
            | (go_at_call 18; refine (HBG.out _ I.out).mono ?_; rintro e w4 ⟨rfl, h4⟩; have J1 := hide h4; clear h4)
            | (go_at_call 13; refine (HIS.out _ J1.out).mono ?_; rintro e w5 ⟨rfl, h5⟩; have J2 := hide h5; clear h5)
            | (go_at_call 34; refine (HLA.out _ J2.out).mono ?_; rintro e w6 ⟨ls, rfl, h6⟩; have J3 : Hid (Lns w [(X, l1)] [] (w6.alloc (.cells #[.int .i64 top1, .int .i64 ls] 59))) := hide (h6.below (balloc (Below.refl _ _) _)); have y0 : (w6.alloc (.cells #[.int .i64 top1, .int .i64 ls] 59)).cell? ⟨w6.heap.size, 0, none⟩ = some (.int .i64 top1) := by (rw [World.cell?_alloc_mark]; rfl))
            | (go_at_call 36; refine (HAT.out _ J3.out).mono ?_; rintro e w7 ⟨rfl, h7, hb7⟩; have J4 := hide h7; have cc7 := (h7.bel.cell (p := ⟨b, f + i, none⟩) HCE.out.1).trans HCE.out.2; have y07 := (hb7.cell (World.block_lt_of_cell? _ _ y0)).trans y0; clear h7 hb7)
            | fail)
          go_roundw
          case rel => exact ⟨i + 1, by omega, rfl, by rw [HTP1.out], by go_num, by rw [← HO1.out]; exact J4.out⟩
          case measure => simp [intOf]; omega
        · rw [if_neg hmt] at HBG HT1
          simp only [errR] at HBG
          have d3 : decide (top ≤ m) = true := decide_eq_true (by omega)
          have ht1 := HT1.out
          clear hmt HT1 HIS
          subst ht1
          go_wp2_with (first
            | (go_at_call 35; have _t := J1; refine (HN2.out _).mono ?_; rintro e w3 ⟨rfl, e⟩; subst e)
            | (go_at_call 35; refine (HN1.out _).mono ?_; rintro e w3 ⟨rfl, e⟩; subst e)
            | (go_at_call 18; refine (HBG.out _ I.out).mono ?_; rintro e w4 ⟨rfl, h4⟩; have J1 := hide h4; have J2 := hide h4; clear h4)
            | (go_at_call 13; refine (HIS.out _ J1.out).mono ?_; rintro e w5 ⟨rfl, h5⟩; have J2 := hide h5; clear h5)
            | (go_at_call 34; refine (HLA.out _ J2.out).mono ?_; rintro e w6 ⟨ls, rfl, h6⟩; have J3 : Hid (Lns w [(X, l1)] [] (w6.alloc (.cells #[.int .i64 top1, .int .i64 ls] 59))) := hide (h6.below (balloc (Below.refl _ _) _)); have y0 : (w6.alloc (.cells #[.int .i64 top1, .int .i64 ls] 59)).cell? ⟨w6.heap.size, 0, none⟩ = some (.int .i64 top1) := by (rw [World.cell?_alloc_mark]; rfl))
            | (go_at_call 36; refine (HAT.out _ J3.out).mono ?_; rintro e w7 ⟨rfl, h7, hb7⟩; have J4 := hide h7; have cc7 := (h7.bel.cell (p := ⟨b, f + i, none⟩) HCE.out.1).trans HCE.out.2; have y07 := (hb7.cell (World.block_lt_of_cell? _ _ y0)).trans y0; clear h7 hb7)
            | fail)
          go_roundw
          case rel => exact ⟨i + 1, by omega, rfl, by rw [HTP1.out], by go_num, by rw [← HO1.out]; exact J4.out⟩
          case measure => simp [intOf]; omega
      · obtain rfl : i = n := by omega
        have hlt : decide ((i : Int) < i) = false := decide_eq_false (by omega)
        have hinv := Ep.ld_inv zs i hn60
        generalize (Ep.ld zs i).off = off at *
        generalize (Ep.ld zs i).top = top at *
        obtain ⟨l0, hl0⟩ : ∃ l, l = (Ep.ld zs i).l := ⟨_, rfl⟩
        have hok := hinv.ok
        have hlen := hinv.len
        rw [← hl0] at I hok hlen
        clear hinv
        obtain ⟨m, hm⟩ : ∃ m, m = l0.length := ⟨_, rfl⟩
        have HM := hide hm
        have HOK := hide hok
        rw [← hm] at hlen
        clear hok hl0 hm
        go_wp2_with (first
          | (go_at_call 16; refine (I.out.pairs (i := 0) rfl).mono ?_; rintro e w4 ⟨A4, c4, rfl, -, h4⟩; have J := hide h4; have HP4 : Hid (PrAt w4 A4 c4 l0) := hide (h4.row 0 rfl); clear h4; rw [← HM.out])
          | fail)
        have hle4 : m ≤ c4 := HM.out ▸ HP4.out.le
        go_loopw [16] (fun kv wq => ∃ j : Nat, 1 ≤ j ∧ j ≤ max m 1 ∧ kv = .int .i64 j ∧ Below w4.heap.size w4 wq) (fun kv _ => m - (intOf kv).toNat)
        case atStart => exact ⟨1, Nat.le_refl _, by omega, rfl, Below.refl _ _⟩
        case round =>
          obtain ⟨j, hj1, hjn, rfl, hb⟩ := hrel
          have HBJ := hide hb
          by_cases hji : j < m
          · obtain ⟨q, rfl⟩ : ∃ q, j = q + 1 := ⟨j - 1, by omega⟩
            obtain ⟨g, f, rfl, -, k1, k2⟩ := (HP4.out.below hb).at_ q (by rw [← HM.out]; omega)
            obtain ⟨g', f', e', -, k3, k4⟩ := (HP4.out.below hb).at_ (q + 1) (by rw [← HM.out]; omega)
            injection e' with e'; injection e' with e1 e2; subst e1 e2
            have hst := HOK.out.rise q (by rw [← HM.out]; omega)
            have hlt2 : decide ((q : Int) + 1 < (m : Int)) = true := decide_eq_true (by omega)
            have hw1 : IntKind.i64.wrap ((q : Int) + 1 - 1) = (q : Int) := by rw [IntKind.wrap_i64]; omega
            have hw2 : IntKind.i64.wrap (q : Int) = (q : Int) := by rw [IntKind.wrap_i64]; omega
            have hw3 : IntKind.i64.wrap ((q : Int) + 1 + 1) = (q : Int) + 1 + 1 := by rw [IntKind.wrap_i64]; omega
            have d1 : decide ((Ep.pr l0 (q + 1)).ep ≤ (Ep.pr l0 q).ep) = false := decide_eq_false (by have := hst.1; omega)
            have d2 : decide ((Ep.pr l0 (q + 1)).st ≤ (Ep.pr l0 q).st) = false := decide_eq_false (by have := hst.2; omega)
            generalize (Ep.pr l0 q).ep = e1 at *
            generalize (Ep.pr l0 (q + 1)).ep = e2 at *
            generalize (Ep.pr l0 q).st = t1 at *
            generalize (Ep.pr l0 (q + 1)).st = t2 at *
            clear hst hb
            go_wp2_with fail
            go_quiet (fail)
            go_wp2_with fail
            go_roundw
            case rel => exact ⟨q + 1 + 1, by omega, by omega, by go_num, below_drewN HBJ.out _⟩
            case measure => simp [intOf]; omega
          · have hlt2 : decide ((j : Int) < (m : Int)) = false := decide_eq_false (by omega)
            clear hb
            go_wp2_with fail
            go_ret
            exact ⟨rfl, J.out.bel.trans (HBJ.out.mono J.out.bel.size)⟩
end Go.Proofs.YtplpakdbahlgaaaDoor

namespace Go.Proofs.YtplpakdbahlgaaaDoor.LeadsLaw9
open Go.Proofs.YtplpakdbahlgaaaDoor
open Go.RowKit Go.ChangeShapes Go.WideShapes Go.ChangeAt

set_option maxRecDepth 100000 in
theorem lifted (os : Os) (started : os.Started) (H : Type) (enc : TypeId × Value → H) :
    ReturnsInHanded {} Tryd.checked os 6 .any (fun w args => (Rows.epochLeadsSpec.pre enc Tryd.prog Tryd.f6 [] false w args ∧ laidMetH Tryd.prog laidErr w) ∧ sizedMet enc Tryd.prog Tryd.f6 (OpenSpec.ofChange Rows.epochLeadsSpec) false w args)
      (Rows.epochLeadsSpec.post enc Tryd.prog Tryd.f6 false true false false) := by
  refine returnsInHanded_of_change_and (C := Tryd.checked) (X := fun w _ => laidMetH Tryd.prog laidErr w) (fun _ _ _ hh h => h.of_heap hh) own started (by kernel_rfl) Tryd.func6
    (ChangeSpec.witness_shaped (enc := enc) (C := Tryd.checked) (os := os) (X := fun w _ => laidMetH Tryd.prog laidErr w) false (World.doorLaid Tryd.prog 400 os) #[.slice none 0 0] 8 rfl (World.shaped_of_RefB (by kernel_rfl) (by kernel_rfl)) (by kernel_rfl) (by kernel_rfl) (by kernel_rfl) (door_met_err os _)) ?_
  intro W base args ds gs before hval0 hW _ _ hL _
  have hval : ∀ (j : Nat) t v, Tryd.f6.params[j]? = some t → args[j]? = some v → Value.okWide Tryd.prog W .any base t v := hval0
  have hW' := hW
  obtain ⟨p, q, hA0, hV, rfl, hfz, hnd⟩ := hW
  have hA : DataW.TrodAll enc Tryd.prog W 0 (fun _ => true) true Tryd.f6.params.toList args.toList ds p := hA0
  rw [Tryd.params6] at hA hval
  obtain ⟨v0, vs0, d0, ds0, p0, q0, hargs, rfl, rfl, h0, r0⟩ := trodAll_cons hA
  obtain ⟨rfl, rfl, rfl⟩ := trodAll_nil r0
  obtain rfl : args = #[v0] := by cases args; simp_all
  obtain ⟨rfl, rfl⟩ := trodVars_none hV
  obtain ⟨a0, len0, cap0, rfl⟩ := okWide_slice Tryd.underlying64 (hval 0 64 v0 rfl rfl)
  have k0 := h0
  have lt0 : ∀ x ∈ p0, x.block < W.heap.size := by obtain ⟨m, hm⟩ := k0; exact DataW.trod_lt m _ _ _ hm
  obtain ⟨zs0, rfl, le0, mx0, w0, z0⟩ := ints_of h0
  clear hA0 hval0
  obtain ⟨ps, hsent⟩ := sents_of_err hL
  refine (leads_any W ps hsent a0 cap0 zs0.length zs0 rfl le0 w0 z0).mono fun e W' ⟨he, bel⟩ => ?_
  subst he
  exact ⟨_, rfl, _, _, _, [], _, [], hW', trodAll_mk1 (shut_bool Tryd.underlying4 _), (trodAll_cons_mk (Below.trod laidOut (by kernel_rfl) (of_decide_eq_true (by kernel_rfl)) k0 bel lt0) trodAll_mk0), rfl, bel.frame _, fun h => by cases h⟩

theorem row : Rows.EpochLeadsSaid :=
  OpenClaim.holds_of_wide 6 Tryd.f6 rfl rfl rfl rfl rfl rfl rfl ⟨rfl, rfl, rfl, rfl, rfl⟩ rfl rfl rfl rfl rfl (by kernel_rfl) Tryd.func6 (by kernel_rfl)
    (of_decide_eq_true (by kernel_rfl)) (by unfold Func.isWrapper; first | (rw [if_pos (by decide +kernel)]; kernel_rfl) | (rw [if_neg (by decide +kernel)]; exact ⟨rfl, rfl⟩))
    (fun os started H enc _ => lifted os started H enc)

theorem proved : Rows.EpochLeadsCardSaid :=
  Claim7.holds_tied_plain_at .later [] _ true _ true
    row (fun _ h => by cases h) (by kernel_rfl) (fun _ h => by cases h) epochLeads_row_tie rfl ⟨rfl, rfl⟩ (by kernel_rfl) rfl
    (fun f fn hf hfn => by
      obtain rfl : f = 6 := Option.some.inj ((show Tryd.prog.funcNamed "cordwood/cordwoodlaw9.EpochLeads" = some 6 by kernel_rfl).symm.trans hf) |>.symm
      obtain rfl : fn = Tryd.f6 := (Option.some.inj (Tryd.func6.symm.trans hfn)).symm
      exact ⟨by kernel_rfl, fun j t ht => by
        rw [Tryd.params6] at ht
        have hm : t ∈ [64] := by simpa using Array.mem_of_getElem? ht
        have hall : ([64].all fun u => !Tryd.prog.wantsStandIn u) = true := by kernel_rfl
        exact (show Tryd.prog.wantsStandIn t = false by simpa using List.all_eq_true.1 hall t hm)⟩)
    (by kernel_rfl)
end Go.Proofs.YtplpakdbahlgaaaDoor.LeadsLaw9
