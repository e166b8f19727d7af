/-
  Package name: objects' names read back.
-/
import Derived.Test.YtklmbfmcfjibbaaDoorNsQ
namespace Go.Proofs.YtklmbfmcfjibbaaDoor
open Go.RowKit Go.Shelf

set_option maxRecDepth 100000 in
set_option maxHeartbeats 1000000 in
theorem parts_any (s : List UInt8) (w : World) (hl : s.length ≤ 1000) (hv : ParseVars w) (hm : MaxVar w) :
    Calls Tryd.prog 10 #[str s] w fun e w' => e = .returned (PtV (partsOf s)) ∧ Below w.heap.size w w' := by
  have kn := neq_err
  have HV := Lib.hid hv
  have HSP := Lib.hid (splitN_any s w hm hl)
  have hpl := split_len [45] (min 4 (s.length + 1) - 1) s
  by_cases hs : ∃ (i : Nat) (k : List UInt8) (b : Nat), Nm.idly (i : Int) ∧ Nm.kindly k = true ∧ Nm.right (b : Int) ∧ s = Nm.objN i k b
  · obtain ⟨i, k, b, h1, h2, h3, rfl⟩ := hs
    rw [partsOf_yes i k b h1 h2 h3]
    have hmin : min 4 ((Nm.objN i k b).length + 1) - 1 = 3 := by rw [Nm.objN_length]; omega
    rw [hmin, Nm.split_obj i k b h2] at HSP
    have hi : i < 10 ^ 10 := by have := Nm.idly_lt h1; simpa using this
    have hb : b < 10 ^ 13 := by have := Nm.right_lt h3; simpa using this
    have hkl : k.length ≤ 1000000 := by rw [Nm.objN_length] at hl; omega
    have hp1 := (Nm.digits_parse (Nm.dgs 10 i) (Nm.dgs_digit 10 i) (fun e => by have := Nm.dgs_length 10 i; rw [e] at this; simp at this) (by rw [Nm.dgs_length]; omega)).2
    rw [Nm.val_dgs 10 i hi] at hp1
    have hp2 := (Nm.digits_parse (Nm.dgs 13 b) (Nm.dgs_digit 13 b) (fun e => by have := Nm.dgs_length 13 b; rw [e] at this; simp at this) (by rw [Nm.dgs_length]; omega)).1
    rw [Nm.val_dgs 13 b hb] at hp2
    have HA : Hid (∀ W, Calls Tryd.prog 29 #[str (Nm.dgs 10 i)] W fun e w' => e = .returned (.tuple #[.int .i64 (i : Int), .nilIface]) ∧ Below W.heap.size W w') := Lib.hid fun W => atoi_ok _ _ W (by rw [Nm.dgs_length]; omega) hp1
    have HP : Hid (∀ W, Calls Tryd.prog 24 #[str (Nm.dgs 13 b), .int .i64 10, .int .i64 64] W fun e w' => e = .returned (.tuple #[.int .i64 (b : Int), .nilIface]) ∧ Below W.heap.size W w') := Lib.hid fun W => parse_ok _ _ W (by rw [Nm.dgs_length]; omega) hp2
    have hob : Nm.obj (i : Int) k (b : Int) = Nm.objN i k b := by unfold Nm.obj; rw [if_pos ⟨h1, h2, h3⟩]; rfl
    have HO : Hid (∀ W, PowTab W → Calls Tryd.prog 16 #[.int .i64 (i : Int), str k, .int .i64 (b : Int)] W fun e w' => e = .returned (str (Nm.objN i k b)) ∧ Below W.heap.size W w') := Lib.hid fun W hW => by
      have := object_any (i : Int) k (b : Int) W hW
      rwa [hob] at this
    generalize Nm.dgs 10 i = d1 at *
    generalize Nm.dgs 13 b = d2 at *
    generalize Nm.objN i k b = s at *
    clear h1 h2 h3 hi hb hkl hp1 hp2 hob hv hm hmin hpl
    go_enter Tryd.func10, Tryd.ntmps10
    go_wp2_with (first
      | (go_at_call 28; refine HSP.out.mono ?_; rintro e w1 ⟨c, rfl, hc, hcell, hb1⟩; have c1 := hcell 1 d1 rfl; have c2 := hcell 2 k rfl; have c3 := hcell 3 d2 rfl; have HB1 := Lib.hid hb1; have HC3 := Lib.hid c3; have HC2 := Lib.hid c2; have hc4 : 4 ≤ c := hc; have hwl : w.heap.size < w1.heap.size := World.block_lt_of_cell? w1 _ c1; have HWL := Lib.hid hwl; clear hcell hb1 hc hwl)
      | (go_at_call 29; refine (HA.out w1).mono ?_; rintro e w2 ⟨rfl, hb2⟩; have e3 := (hb2.cell (p := ⟨w.heap.size, 3, none⟩) HWL.out).trans HC3.out; have e2 := (hb2.cell (p := ⟨w.heap.size, 2, none⟩) HWL.out).trans HC2.out; have HB2 := Lib.hid (HB1.out.trans (hb2.mono HB1.out.size)); clear hb2)
      | (go_at_call 24; refine (HP.out w2).mono ?_; rintro e w3 ⟨rfl, hb3⟩; have HB3 := Lib.hid (HB2.out.trans (hb3.mono HB2.out.size)); clear hb3)
      | (go_at_call 16; refine (HO.out w3 (HV.out.pow.below HB3.out)).mono ?_; rintro e w4 ⟨rfl, hb4⟩; have HB4 := Lib.hid (HB3.out.trans (hb4.mono HB3.out.size)); clear hb4)
      | fail)
    go_returns
    exact ⟨rfl, HB4.out⟩
  · have hno : ∀ (i : Nat) k (b : Nat), Nm.idly (i : Int) → Nm.kindly k = true → Nm.right (b : Int) → s ≠ Nm.objN i k b := fun i k b h1 h2 h3 h4 => hs ⟨i, k, b, h1, h2, h3, h4⟩
    rw [partsOf_no s hno]
    have hs0 : s = [] → Lib.splitK [45] 0 (min 4 (s.length + 1) - 1) s = [[]] := fun e => by subst e; rfl
    generalize Lib.splitK [45] 0 (min 4 (s.length + 1) - 1) s = ps at *
    by_cases h4 : ps.length = 4
    · obtain ⟨p0, p1, p2, p3, rfl⟩ : ∃ p0 p1 p2 p3, ps = [p0, p1, p2, p3] := by
        match ps, h4 with
        | [a, b, c, d], _ => exact ⟨a, b, c, d, rfl⟩
      have hl1 := hpl p1 (by simp)
      have hl2 := hpl p2 (by simp)
      have hl3 := hpl p3 (by simp)
      have hne0 : s ≠ [] := fun e => by have := hs0 e; simp at this
      by_cases ha : ∃ v, Lib.atoiAll p1 = .ok v
      · obtain ⟨v1, ha⟩ := ha
        have HA : Hid (∀ W, Calls Tryd.prog 29 #[str p1] W fun e w' => e = .returned (.tuple #[.int .i64 v1, .nilIface]) ∧ Below W.heap.size W w') := Lib.hid fun W => atoi_ok p1 _ W (by omega) ha
        by_cases hp : ∃ v, Lib.parseIntB 64 p3 = .ok v
        · obtain ⟨v3, hp⟩ := hp
          have HP : Hid (∀ W, Calls Tryd.prog 24 #[str p3, .int .i64 10, .int .i64 64] W fun e w' => e = .returned (.tuple #[.int .i64 v3, .nilIface]) ∧ Below W.heap.size W w') := Lib.hid fun W => parse_ok p3 _ W (by omega) hp
          have hne : (Nm.obj v1 p2 v3 == s) = false := by
            rw [beq_eq_false_iff_ne]
            exact obj_ne s v1 p2 v3 hno hne0
          have HO : Hid (∀ W, PowTab W → Calls Tryd.prog 16 #[.int .i64 v1, str p2, .int .i64 v3] W fun e w' => e = .returned (str (Nm.obj v1 p2 v3)) ∧ Below W.heap.size W w') := Lib.hid fun W hW => object_any v1 p2 v3 W hW
          generalize Nm.obj v1 p2 v3 = r at *
          clear hs hno ha hp hv hm h4 hs0 hpl hl1 hl2 hl3 hne0
          go_enter Tryd.func10, Tryd.ntmps10
          go_wp2_with (first
            | (go_at_call 28; refine HSP.out.mono ?_; rintro e w1 ⟨c, rfl, hc, hcell, hb1⟩; have c1 := hcell 1 p1 rfl; have c2 := hcell 2 p2 rfl; have c3 := hcell 3 p3 rfl; have HB1 := Lib.hid hb1; have HC3 := Lib.hid c3; have HC2 := Lib.hid c2; have hc4 : 4 ≤ c := hc; have hwl : w.heap.size < w1.heap.size := World.block_lt_of_cell? w1 _ c1; have HWL := Lib.hid hwl; clear hcell hb1 hc hwl)
            | (go_at_call 29; refine (HA.out w1).mono ?_; rintro e w2 ⟨rfl, hb2⟩; have e3 := (hb2.cell (p := ⟨w.heap.size, 3, none⟩) HWL.out).trans HC3.out; have e2 := (hb2.cell (p := ⟨w.heap.size, 2, none⟩) HWL.out).trans HC2.out; have HB2 := Lib.hid (HB1.out.trans (hb2.mono HB1.out.size)); clear hb2)
            | (go_at_call 24; refine (HP.out w2).mono ?_; rintro e w3 ⟨rfl, hb3⟩; have HB3 := Lib.hid (HB2.out.trans (hb3.mono HB2.out.size)); clear hb3)
            | (go_at_call 16; refine (HO.out w3 (HV.out.pow.below HB3.out)).mono ?_; rintro e w4 ⟨rfl, hb4⟩; have HB4 := Lib.hid (HB3.out.trans (hb4.mono HB3.out.size)); clear hb4)
            | fail)
          go_returns
          exact ⟨rfl, HB4.out⟩
        · have HP : Hid (∀ W, ParseVars W → Calls Tryd.prog 24 #[str p3, .int .i64 10, .int .i64 64] W fun e w' => (∃ z N, e = .returned (.tuple #[.int .i64 z, .iface 71 (.pointer (some ⟨N, 0, none⟩))])) ∧ Below W.heap.size W w') := Lib.hid fun W hW => parse_bad p3 W (by omega) (fun v e => hp ⟨v, e⟩) hW
          clear hs hno ha hp hv hm h4 hs0 hpl hl1 hl2 hl3 hne0
          go_enter Tryd.func10, Tryd.ntmps10
          go_wp2_with (first
            | (go_at_call 28; refine HSP.out.mono ?_; rintro e w1 ⟨c, rfl, hc, hcell, hb1⟩; have c1 := hcell 1 p1 rfl; have c2 := hcell 2 p2 rfl; have c3 := hcell 3 p3 rfl; have HB1 := Lib.hid hb1; have HC3 := Lib.hid c3; have HC2 := Lib.hid c2; have hc4 : 4 ≤ c := hc; have hwl : w.heap.size < w1.heap.size := World.block_lt_of_cell? w1 _ c1; have HWL := Lib.hid hwl; clear hcell hb1 hc hwl)
            | (go_at_call 29; refine (HA.out w1).mono ?_; rintro e w2 ⟨rfl, hb2⟩; have e3 := (hb2.cell (p := ⟨w.heap.size, 3, none⟩) HWL.out).trans HC3.out; have e2 := (hb2.cell (p := ⟨w.heap.size, 2, none⟩) HWL.out).trans HC2.out; have HB2 := Lib.hid (HB1.out.trans (hb2.mono HB1.out.size)); clear hb2)
            | (go_at_call 24; refine (HP.out w2 (HV.out.below HB2.out)).mono ?_; rintro e w3 ⟨⟨z3, N3, rfl⟩, hb3⟩; have HB3 := Lib.hid (HB2.out.trans (hb3.mono HB2.out.size)); clear hb3)
            | fail)
          go_returns
          exact ⟨rfl, HB3.out⟩
      · have HA : Hid (∀ W, ParseVars W → Calls Tryd.prog 29 #[str p1] W fun e w' => (∃ z N, e = .returned (.tuple #[.int .i64 z, .iface 71 (.pointer (some ⟨N, 0, none⟩))])) ∧ Below W.heap.size W w') := Lib.hid fun W hW => atoi_bad p1 W (by omega) (fun v e => ha ⟨v, e⟩) hW
        have HP : Hid (∀ W, ParseVars W → Calls Tryd.prog 24 #[str p3, .int .i64 10, .int .i64 64] W fun e w' => (∃ z ev, e = .returned (.tuple #[.int .i64 z, ev])) ∧ Below W.heap.size W w') := Lib.hid fun W hW => parse_any p3 W (by omega) hW
        clear hs hno ha hv hm h4 hs0 hpl hl1 hl2 hl3 hne0
        go_enter Tryd.func10, Tryd.ntmps10
        go_wp2_with (first
          | (go_at_call 28; refine HSP.out.mono ?_; rintro e w1 ⟨c, rfl, hc, hcell, hb1⟩; have c1 := hcell 1 p1 rfl; have c2 := hcell 2 p2 rfl; have c3 := hcell 3 p3 rfl; have HB1 := Lib.hid hb1; have HC3 := Lib.hid c3; have HC2 := Lib.hid c2; have hc4 : 4 ≤ c := hc; have hwl : w.heap.size < w1.heap.size := World.block_lt_of_cell? w1 _ c1; have HWL := Lib.hid hwl; clear hcell hb1 hc hwl)
          | (go_at_call 29; refine (HA.out w1 (HV.out.below HB1.out)).mono ?_; rintro e w2 ⟨⟨z2, N2, rfl⟩, hb2⟩; have e3 := (hb2.cell (p := ⟨w.heap.size, 3, none⟩) HWL.out).trans HC3.out; have e2 := (hb2.cell (p := ⟨w.heap.size, 2, none⟩) HWL.out).trans HC2.out; have HB2 := Lib.hid (HB1.out.trans (hb2.mono HB1.out.size)); clear hb2)
          | (go_at_call 24; refine (HP.out w2 (HV.out.below HB2.out)).mono ?_; rintro e w3 ⟨⟨z3, ev3, rfl⟩, hb3⟩; have HB3 := Lib.hid (HB2.out.trans (hb3.mono HB2.out.size)); clear hb3)
          | fail)
        go_returns
        exact ⟨rfl, HB3.out⟩
    · have hne : ((ps.length : Int) == 4) = false := by rw [beq_eq_false_iff_ne]; omega
      generalize ps.length = m at *
      have hd : (m == 4) = false := by rw [beq_eq_false_iff_ne]; exact h4
      clear hs hno hv hm h4 hs0 hpl
      go_enter Tryd.func10, Tryd.ntmps10
      go_wp2_with (first
        | (go_at_call 28; refine HSP.out.mono ?_; rintro e w1 ⟨c, rfl, hc, hcell, hb1⟩; have HB1 := Lib.hid hb1; clear hcell hb1 hc)
        | fail)
      go_returns
      exact ⟨rfl, HB1.out⟩
end Go.Proofs.YtklmbfmcfjibbaaDoor
