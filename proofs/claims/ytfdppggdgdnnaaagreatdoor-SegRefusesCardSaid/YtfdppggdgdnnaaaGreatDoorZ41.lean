/-
  Package seg: Create, whatever the disk says; where its numbers may not be.
-/
import Derived.Test.YtfdppggdgdnnaaaGreatDoorZ16
namespace Go.Proofs.YtfdppggdgdnnaaaGreatDoor
open Go.RowKit Go.Maps Go.Sort

set_option maxRecDepth 100000 in
theorem ixNew_bad (e : Int) (w : World) (p : Nat → Addr) (h : e < 1 ∨ 1048576 < e) (c4 : w.cell? ⟨0, 0, none⟩ = some (errV (p 4))) :
    Calls Tryz.prog 14 #[.int .i64 e] w fun r w' => r = .returned (.tuple #[.pointer none, errV (p 4)]) ∧ Below w.heap.size w w' := by
  unfold errV at *
  rcases (show e < 1 ∨ (¬ e < 1 ∧ 1048576 < e) by omega) with h | ⟨h, h2⟩
  · have d1 : decide (e < 1) = true := decide_eq_true h
    go_enter Tryz.func14, Tryz.ntmps14
    go_wp2_with fail
    go_quiet (fail)
    go_wp2_with fail
    go_ret2
    exact ⟨rfl, below_drewN (Below.refl _ _) _⟩
  · have d1 : decide (e < 1) = false := decide_eq_false h
    have d2 : decide (1048576 < e) = true := decide_eq_true h2
    go_enter Tryz.func14, Tryz.ntmps14
    go_wp2_with fail
    go_quiet (fail)
    go_wp2_with fail
    go_ret2
    exact ⟨rfl, below_drewN (Below.refl _ _) _⟩
set_option maxRecDepth 100000 in
/-- begin, where a number may not be. -/
theorem sgBegin_bad (D : Nat) (base every : Int) (w : World) (p : Nat → Addr) (hb : (base < 0 ∨ 1099511627776 < base) ∨ (every < 1 ∨ 1048576 < every)) (hs : SentsG w p) (ht : PowTab w) :
    Calls Tryz.prog 76 #[.pointer (some ⟨D, 0, none⟩), .int .i64 base, .int .i64 every] w fun e w' => e = .returned (.tuple #[.pointer none, errV (p 4)]) ∧ Below w.heap.size w w' := by
  have HSG := hide (segment_any base w ht)
  have HC := hide (fun (W : World) (hw : Below w.heap.size w W) => (show W.cell? ⟨0, 0, none⟩ = some (errV (p 4)) from (hs.below hw).cell 4 (by omega)))
  by_cases hr : base < 0 ∨ 1099511627776 < base
  · have he : Nm.seg base = [] := by unfold Nm.seg; rw [if_neg (by simp [Nm.right]; omega)]
    rw [he] at HSG
    unfold errV at *
    go_enter Tryz.func76, Tryz.ntmps76
    go_wp2_with (first
      | (go_at_call 111; refine HSG.out.mono ?_; rintro e w1 ⟨rfl, hb1⟩; have HB1 := hide hb1; have g4 := HC.out w1 hb1; clear hb1)
      | fail)
    go_region
    go_wp2_with fail
    go_ret2
    exact ⟨rfl, HB1.out.drew⟩
  · have h2 : every < 1 ∨ 1048576 < every := by omega
    have HNW := hide (fun (W : World) (hw : Below w.heap.size w W) => ixNew_bad every W p h2 (HC.out W hw))
    have hl := seg_name (base := base) (by omega)
    generalize Nm.seg base = r at *
    have hz : r.isEmpty = false := by
      cases r with
      | nil => simp at hl
      | cons a r => rfl
    have hnn := neq_nilD (p 4)
    unfold errV at *
    clear ht hl
    go_enter Tryz.func76, Tryz.ntmps76
    go_wp2_with (first
      | (go_at_call 111; refine HSG.out.mono ?_; rintro e w1 ⟨rfl, hb1⟩; have HB1 := hide hb1; clear hb1)
      | (go_at_call 14; refine (HNW.out _ HB1.out).mono ?_; rintro e w2 ⟨rfl, hb2⟩; have HB2 := hide (HB1.out.trans (hb2.mono HB1.out.size)); clear hb2)
      | fail)
    go_ret2
    exact ⟨rfl, HB2.out⟩
set_option maxRecDepth 100000 in
/-- Create, where a number may not be. -/
theorem sgCreate_bad (D : Nat) (base every : Int) (w : World) (p : Nat → Addr) (hb : (base < 0 ∨ 1099511627776 < base) ∨ (every < 1 ∨ 1048576 < every)) (hs : SentsG w p) (ht : PowTab w) :
    Calls Tryz.prog 35 #[.pointer (some ⟨D, 0, none⟩), .int .i64 base, .int .i64 every] w fun e w' => e = .returned (.tuple #[.pointer none, errV (p 4)]) ∧ Below w.heap.size w w' := by
  have HB := hide (sgBegin_bad D base every w p hb hs ht)
  have hnn := neq_nilD (p 4)
  unfold errV at *
  clear hb hs ht
  go_enter Tryz.func35, Tryz.ntmps35
  go_wp2_with (first
    | (go_at_call 76; refine HB.out.mono ?_; rintro e w1 ⟨rfl, hb1⟩; have HB1 := hide hb1; clear hb1)
    | fail)
  go_ret2
  exact ⟨rfl, HB1.out⟩
/-- What Create makes of the disk, and its error. -/
def sgCrt (d : Dk.St) (f : Dk.Nm) (x : Nat) : Option Nat × Dk.St :=
  if (d.create f x).1 ≠ none then d.create f x
  else if ((d.create f x).2.sync f).1 ≠ none then (d.create f x).2.sync f
  else ((d.create f x).2.sync f).2.syncDir
/-- What Create leaves, and answers. -/
def CrPost (w0 : World) (S : Nat → Prop) (n Bd : Nat) (p : Nat → Addr) (s0 : Sg.St) (w : World) (r : Option Nat × Dk.St) (e : Ending) (w' : World) : Prop :=
  match r.1 with
  | none => ∃ X S' T', e = .returned (.tuple #[.pointer (some ⟨X, 0, none⟩), .nilIface]) ∧ SgW w0 S' T' (n + 3) Bd r.2 X s0 w' ∧ Chg S w w' ∧ (∀ k, (S' k ∨ T' k) → Up S w w' k)
  | some j => ∃ S', e = .returned (.tuple #[.pointer none, errV (p j)]) ∧ SessS S' w0 (n + 3) Bd r.2 w' ∧ Chg S w w' ∧ (∀ k, S' k → Up S w w' k)
set_option maxRecDepth 100000 in
set_option maxHeartbeats 1000000 in
theorem sgCreate_any (w0 w : World) (S : Nat → Prop) (n Bd : Nat) (d : Dk.St) (base every : Int) (p : Nat → Addr) (h : SessS S w0 n Bd d w) (hs : SentsG w0 p) (hn : n ≤ 990) (h0 : 0 ≤ base ∧ base ≤ 1099511627776) (h1 : 1 ≤ every ∧ every ≤ 1048576) (ht : PowTab w0) :
    Calls Tryz.prog 35 #[.pointer (some ⟨Bd, 0, none⟩), .int .i64 base, .int .i64 every] w fun e w' => ∃ x, w.heap.size ≤ x ∧ CrPost w0 S n Bd p (Sg.begin (Nm.seg base) base every) w (sgCrt d (Nm.seg base) x) e w' := by
  have HB := hide (sgBegin_any Bd base every w h0 h1 (ht.below h.below))
  have HH := hide h
  have HSD := hide hs.d
  have HLN : Hid ((Nm.seg base).length ≤ 1000) := hide (by rw [seg_name h0]; omega)
  have HOK := hide (Sg.begin_ok (Nm.seg base) h0 h1)
  have HFL : Hid ((Sg.begin (Nm.seg base) base every).file = Nm.seg base) := hide rfl
  clear h hs ht
  generalize Sg.begin (Nm.seg base) base every = s0 at *
  generalize Nm.seg base = f at *
  have HC := hide (fun (W : World) (hw : Below w.heap.size w W) => (HH.out.grow hw).create p HSD.out (by omega) f HLN.out W.heap.size rfl)
  have HY := hide (fun (W : World) (S' : Nat → Prop) (dx : Dk.St) (hW : SessS S' w0 (n + 1) Bd dx W) => hW.sync p HSD.out (by omega) f HLN.out)
  have HD := hide (fun (W : World) (S' : Nat → Prop) (dx : Dk.St) (hW : SessS S' w0 (n + 2) Bd dx W) => hW.syncDir p HSD.out (by omega))
  generalize hfe : encStr f = fv at *
  go_enter Tryz.func35, Tryz.ntmps35
  go_upto_region 4 with (first
    | (go_at_call 76; refine HB.out.mono ?_; rintro e w1 ⟨X, rfl, hsg, hb1⟩; have HB1 := hide hb1; obtain ⟨v1, hl1⟩ := hsg; have HL1 := hide hl1; have c1 : w1.cell? ⟨X, 1, none⟩ = some fv := (by rw [← hfe, ← HFL.out]; exact box_cell hl1.box 1); clear hb1 hl1)
    | fail)
  have z1 := HB1.out.size
  have n1 : ∀ k, (w.heap.size ≤ k ∧ k < w1.heap.size) → ¬ S k := fun k hk hS => by have := (HH.out.lo k hS).2; omega
  have hc1 := HC.out w1 HB1.out
  obtain ⟨x, hx⟩ : ∃ x, x = w1.heap.size := ⟨_, rfl⟩
  rw [← hx] at hc1
  obtain ⟨r1, d1, e1⟩ : ∃ r1 d1, d.create f x = (r1, d1) := ⟨_, _, rfl⟩
  rw [e1] at hc1
  simp only at hc1
  have HC1 := hide hc1
  have HXX := hide hx
  have HE1 := hide e1
  clear hc1 HC hx e1
  cases r1 with
  | some j =>
    have hr : sgCrt d f x = (some j, d1) := by unfold sgCrt; rw [HE1.out, if_pos (by simp)]
    have hnn := neq_nilD (p j)
    unfold errR errV at *
    go_wp2_with (first
      | (go_at_call 43; refine HC1.out.mono ?_; rintro e w2 ⟨rfl, hd2, hc2⟩; have HD2 := hide hd2; have HC2 := hide hc2; clear hd2 hc2)
      | fail)
    go_ret2
    refine ⟨x, by rw [HXX.out]; exact z1, ?_⟩
    rw [hr]
    have z2 := HC2.out.size
    refine ⟨_, rfl, HD2.out.mono (by omega), (Chg.of_below HB1.out).then HC2.out, fun k hk => ?_⟩
    rcases hk with hk | hk
    · exact .inl hk
    · exact .inr (by omega)
  | none =>
    unfold errR at HC1
    go_upto_region 7 with (first
      | (go_at_call 43; refine HC1.out.mono ?_; rintro e w2 ⟨rfl, hd2, hc2⟩; have HD2 := hide hd2; have HC2 := hide hc2; have HL2 := hide (HL1.out.same fun k hk hl => hc2.block k hl (n1 k hk)); have c2 : w2.cell? ⟨X, 1, none⟩ = some fv := (by rw [← hfe, ← HFL.out]; exact box_cell HL2.out.box 1); clear hd2 hc2)
      | fail)
    have z2 := HC2.out.size
    have n2 : ∀ k, (w.heap.size ≤ k ∧ k < w1.heap.size) → ¬ Up S w1 w2 k := fun k hk hu => by rcases hu with hu | hu; exact n1 k hk hu; omega
    have hy1 := HY.out w2 _ _ HD2.out
    obtain ⟨r2, d2, e2⟩ : ∃ r2 d2, d1.sync f = (r2, d2) := ⟨_, _, rfl⟩
    rw [e2] at hy1
    simp only at hy1
    have HY1 := hide hy1
    have HE2 := hide e2
    clear hy1 HY e2
    cases r2 with
    | some j =>
      have hr : sgCrt d f x = (some j, d2) := by unfold sgCrt; rw [HE1.out, if_neg (by simp), HE2.out, if_pos (by simp)]
      have hnn := neq_nilD (p j)
      unfold errR errV at *
      go_wp2_with (first
        | (go_at_call 77; refine HY1.out.mono ?_; rintro e w3 ⟨rfl, hd3, hc3⟩; have HD3 := hide hd3; have HC3 := hide hc3; clear hd3 hc3)
        | fail)
      go_ret2
      refine ⟨x, by rw [HXX.out]; exact z1, ?_⟩
      rw [hr]
      have z3 := HC3.out.size
      refine ⟨_, rfl, HD3.out.mono (by omega), (Chg.of_below HB1.out).then (HC2.out.up HC3.out), fun k hk => ?_⟩
      rcases hk with (hk | hk) | hk
      · exact .inl hk
      · exact .inr (by omega)
      · exact .inr (by omega)
    | none =>
      unfold errR at HY1
      go_upto_region 10 with (first
        | (go_at_call 77; refine HY1.out.mono ?_; rintro e w3 ⟨rfl, hd3, hc3⟩; have HD3 := hide hd3; have HC3 := hide hc3; clear hd3 hc3)
        | fail)
      have z3 := HC3.out.size
      have n3 : ∀ k, (w.heap.size ≤ k ∧ k < w1.heap.size) → ¬ Up (Up S w1 w2) w2 w3 k := fun k hk hu => by rcases hu with hu | hu; exact n2 k hk hu; omega
      have hq1 := HD.out w3 _ _ HD3.out
      obtain ⟨r3, d3, e3⟩ : ∃ r3 d3, d2.syncDir = (r3, d3) := ⟨_, _, rfl⟩
      rw [e3] at hq1
      simp only at hq1
      have HQ1 := hide hq1
      have HE3 := hide e3
      clear hq1 HD e3
      have hr : sgCrt d f x = (r3, d3) := by unfold sgCrt; rw [HE1.out, if_neg (by simp), HE2.out, if_neg (by simp)]; exact HE3.out
      have HRR := hide hr
      clear hr
      cases r3 with
      | some j =>
        have hnn := neq_nilD (p j)
        unfold errR errV at *
        go_wp2_with (first
          | (go_at_call 78; refine HQ1.out.mono ?_; rintro e w4 ⟨rfl, hd4, hc4⟩; have HD4 := hide hd4; have HC4 := hide hc4; clear hd4 hc4)
          | fail)
        go_ret2
        refine ⟨x, by rw [HXX.out]; exact z1, ?_⟩
        rw [HRR.out]
        have z4 := HC4.out.size
        refine ⟨_, rfl, HD4.out, (Chg.of_below HB1.out).then ((HC2.out.up HC3.out).trans HC4.out fun i hi ht => by
          rcases ht with (ht | ht) | ht
          · exact ht
          · omega
          · omega), fun k hk => ?_⟩
        rcases hk with ((hk | hk) | hk) | hk
        · exact .inl hk
        · exact .inr (by omega)
        · exact .inr (by omega)
        · exact .inr (by omega)
      | none =>
        unfold errR at HQ1
        go_wp2_with (first
          | (go_at_call 78; refine HQ1.out.mono ?_; rintro e w4 ⟨rfl, hd4, hc4⟩; have HD4 := hide hd4; have HC4 := hide hc4; clear hd4 hc4)
          | fail)
        go_ret2
        refine ⟨x, by rw [HXX.out]; exact z1, ?_⟩
        rw [HRR.out]
        have z4 := HC4.out.size
        have n4 : ∀ k, (w.heap.size ≤ k ∧ k < w1.heap.size) → ¬ Up (Up (Up S w1 w2) w2 w3) w3 w4 k := fun k hk hu => by rcases hu with hu | hu; exact n3 k hk hu; omega
        have hsb := HH.out.below.size
        refine ⟨X, _, _, rfl, ⟨HD4.out, ⟨v1, (HL2.out.same fun k hk hl => HC3.out.block k hl (n2 k hk)).same fun k hk hl => HC4.out.block k hl (n3 k hk)⟩, n4, fun k hk => by omega, HOK.out, by rw [HFL.out]; exact HLN.out⟩, ?_, fun k hk => ?_⟩
        · exact (Chg.of_below HB1.out).then ((HC2.out.up HC3.out).trans HC4.out fun i hi ht => by
            rcases ht with (ht | ht) | ht
            · exact ht
            · omega
            · omega)
        · rcases hk with ((((hk | hk) | hk) | hk) | hk)
          · exact .inl hk
          · exact .inr (by omega)
          · exact .inr (by omega)
          · exact .inr (by omega)
          · exact .inr (by omega)
end Go.Proofs.YtfdppggdgdnnaaaGreatDoor
