/-
  NameSays: which names may be, those of segments and objects, and what any name says, are what the reference says.
-/
import Derived.Test.YtklmbfmcfjibbaaDoorNsK
namespace Go.Proofs.YtklmbfmcfjibbaaDoor
open Go.RowKit Go.Shelf

set_option maxRecDepth 100000 in
set_option maxHeartbeats 4000000 in
theorem says_walk (s kind : List UInt8) (i b : Int) (w : World) (hv : ParseVars w) (hm : MaxVar w) :
    Calls Tryd.prog 3 #[str s, str kind, .int .i64 i, .int .i64 b] w fun e w' => e = .returned (.bool true) ∧ Below w.heap.size w w' := by
  have HF := Lib.hid (first_name w hv.pow)
  have hsz : (⟨s.toArray⟩ : ByteArray).size = s.length := by show s.toArray.size = _; simp
  have hkz : (⟨kind.toArray⟩ : ByteArray).size = kind.length := by show kind.toArray.size = _; simp
  have HV := Lib.hid hv
  have HM := Lib.hid hm
  clear hv hm
  by_cases h1 : 100 < s.length
  · have d1 : decide ((100 : Int) < (s.length : Int)) = true := by simp; omega
    go_enter Tryd.func3, Tryd.ntmps3
    go_wp2_with (first
      | (go_at_call 7; refine HF.out.mono ?_; rintro e w1 ⟨rfl, hb1⟩; have B1 := Lib.hid hb1; clear hb1)
      | fail)
    go_ret
    exact ⟨rfl, B1.out⟩
  · have d1 : decide ((100 : Int) < (s.length : Int)) = false := by simp; omega
    by_cases h2 : 20 < kind.length
    · have d2 : decide ((20 : Int) < (kind.length : Int)) = true := by simp; omega
      go_enter Tryd.func3, Tryd.ntmps3
      go_wp2_with (first
        | (go_at_call 7; refine HF.out.mono ?_; rintro e w1 ⟨rfl, hb1⟩; have B1 := Lib.hid hb1; clear hb1)
        | fail)
      go_ret
      exact ⟨rfl, B1.out⟩
    · have d2 : decide ((20 : Int) < (kind.length : Int)) = false := by simp; omega
      have HB : Hid (∀ W, ParseVars W → Calls Tryd.prog 8 #[str s] W fun e w' => e = .returned (.tuple #[.int .i64 (baseOf s).1, .bool (baseOf s).2]) ∧ Below W.heap.size W w') := Lib.hid fun W hW => base_any s W (by omega) hW
      have HB1 : Hid (∀ W, Calls Tryd.prog 9 #[str s] W fun e w' => e = .returned (.tuple #[.int .i64 (baseOf s).1, .bool (baseOf s).2]) ∧ w' = W) := Lib.hid fun W => base1_any s W
      have HP : Hid (∀ W, ParseVars W → MaxVar W → Calls Tryd.prog 10 #[str s] W fun e w' => e = .returned (PtV (partsOf s)) ∧ Below W.heap.size W w') := Lib.hid fun W hW hX => parts_any s W (by omega) hW hX
      have HP1 : Hid (∀ W, Calls Tryd.prog 11 #[str s] W fun e w' => e = .returned (PtV (partsOf s)) ∧ w' = W) := Lib.hid fun W => parts1_any s W
      have HA : Hid (∀ W, Calls Tryd.prog 12 #[str s] W fun e w' => e = .returned (.bool (validN s)) ∧ Below W.heap.size W w') := Lib.hid fun W => valid_any s W
      have HA1 : Hid (∀ W, Calls Tryd.prog 13 #[str s] W fun e w' => e = .returned (.bool (validN s)) ∧ w' = W) := Lib.hid fun W => valid1_any s W
      have HS : Hid (∀ W, PowTab W → Calls Tryd.prog 14 #[.int .i64 b] W fun e w' => e = .returned (str (Nm.seg b)) ∧ Below W.heap.size W w') := Lib.hid fun W hW => segment_any b W hW
      have HS1 : Hid (∀ W, Calls Tryd.prog 15 #[.int .i64 b] W fun e w' => e = .returned (str (Nm.seg b)) ∧ w' = W) := Lib.hid fun W => segment1_any b W
      have HO : Hid (∀ W, PowTab W → Calls Tryd.prog 16 #[.int .i64 i, str kind, .int .i64 b] W fun e w' => e = .returned (str (Nm.obj i kind b)) ∧ Below W.heap.size W w') := Lib.hid fun W hW => object_any i kind b W hW
      have HO1 : Hid (∀ W, Calls Tryd.prog 17 #[.int .i64 i, str kind, .int .i64 b] W fun e w' => e = .returned (str (Nm.obj i kind b)) ∧ w' = W) := Lib.hid fun W => object1_any i kind b W
      generalize Nm.seg b = sg at *
      generalize Nm.obj i kind b = ob at *
      generalize validN s = va at *
      generalize baseOf s = bo at *
      generalize partsOf s = po at *
      obtain ⟨b1, b2⟩ := bo
      obtain ⟨p1, p2, p3, p4⟩ := po
      unfold PtV at HP HP1
      simp only at HB HB1 HP HP1
      go_enter Tryd.func3, Tryd.ntmps3
      go_wp2_with (first
        | (go_at_call 7; refine HF.out.mono ?_; rintro e w1 ⟨rfl, hb1⟩; have B1 := Lib.hid hb1; clear hb1)
        | (go_at_call 8; refine (HB.out _ (HV.out.below B1.out)).mono ?_; rintro e w2 ⟨rfl, hb2⟩; have B2 := Lib.hid (B1.out.trans (hb2.mono B1.out.size)); clear hb2)
        | (go_at_call 9; refine (HB1.out _).mono ?_; rintro e w2' ⟨rfl, rfl⟩)
        | (go_at_call 10; refine (HP.out _ (HV.out.below B2.out) (HM.out.below B2.out)).mono ?_; rintro e w3 ⟨rfl, hb3⟩; have B3 := Lib.hid (B2.out.trans (hb3.mono B2.out.size)); clear hb3)
        | (go_at_call 11; refine (HP1.out _).mono ?_; rintro e w3' ⟨rfl, rfl⟩)
        | (go_at_call 12; refine (HA.out _).mono ?_; rintro e w4 ⟨rfl, hb4⟩; have B4 := Lib.hid (B3.out.trans (hb4.mono B3.out.size)); clear hb4)
        | (go_at_call 13; refine (HA1.out _).mono ?_; rintro e w4' ⟨rfl, rfl⟩)
        | (go_at_call 14; refine (HS.out _ (HV.out.pow.below B4.out)).mono ?_; rintro e w5 ⟨rfl, hb5⟩; have B5 := Lib.hid (B4.out.trans (hb5.mono B4.out.size)); clear hb5)
        | (go_at_call 15; refine (HS1.out _).mono ?_; rintro e w5' ⟨rfl, rfl⟩)
        | (go_at_call 16; refine (HO.out _ (HV.out.pow.below B5.out)).mono ?_; rintro e w6 ⟨rfl, hb6⟩; have B6 := Lib.hid (B5.out.trans (hb6.mono B5.out.size)); clear hb6)
        | (go_at_call 17; refine (HO1.out _).mono ?_; rintro e w6' ⟨rfl, rfl⟩)
        | fail)
      go_ret
      exact ⟨rfl, B6.out⟩
end Go.Proofs.YtklmbfmcfjibbaaDoor
