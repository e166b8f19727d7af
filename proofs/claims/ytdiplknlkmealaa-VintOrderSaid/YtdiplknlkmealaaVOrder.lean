/-
  VintOrder: for every two numbers of 64 bits and every number that may be below nothing the statement's function returns true and leaves what was there as it was: the longer one has no fewer bytes, at most ten; a number and its like below nothing have as many.
-/
import Derived.Test.YtdiplknlkmealaaVFirst
import Derived.Test.YtdiplknlkmealaaHNum
import Derived.OpenShut
namespace Go.Proofs.Ytdiplknlkmealaa.OrderLaw
open Go.Proofs.Ytdiplknlkmealaa
open Go.ChangeShapes Go.WideShapes Go.ChangeAt Go.RowKit

theorem own : ownKnob Try.prog.godebug = none := by kernel_rfl
theorem laidOut : laidOutB Try.prog = true := by kernel_rfl

theorem walk_le (u v : Nat) (n : Int) (w : World) (hu : u < 18446744073709551616) (hv : v < 18446744073709551616) (h1 : -9223372036854775808 ≤ n) (h2 : n ≤ 9223372036854775807) (huv : u ≤ v) :
    Calls Try.prog 3 #[.int .u64 u, .int .u64 v, .int .i64 n] w fun e w' => e = .returned (.bool true) ∧ Below w.heap.size w w' := by
  go_enter Try.func3, Try.ntmps3
  go_wp2_with fail
  refine (vfirst_any _).mono ?_
  rintro e w1 ⟨rfl, hb1⟩
  have HB1 := hide hb1
  have hs0 := Vi.size_lt (show 0 < 128 by omega)
  have hszz := Vi.size_zz n
  have hmono := Vi.size_mono v u huv
  have hten := Vi.size_le10 hv
  have HV := hide (fun W => size_any v W hv)
  have HU := hide (fun W => size_any u W hu)
  have H0 : Hid (∀ W, Calls Try.prog 6 #[.int .u64 0] W fun e w' => e = .returned (.int .i64 1) ∧ W = w') := hide (fun W => by
    have h := size_any 0 W (by omega)
    rw [hs0] at h; exact h)
  have HP := hide (fun W => put_nil v W hv)
  have HZ := hide hszz
  clear hb1 hs0 hszz hu hv
  go_wp2_with fail
  refine (putInt_nil n w1 h1 h2).mono ?_
  rintro e w2 ⟨A2, c2, rfl, -, -, hb2⟩
  have HB2 := hide (HB1.out.trans (hb2.mono HB1.out.size))
  clear hb2
  go_wp2_with fail
  refine (putInt_nil (-1 - n) w2 (by omega) (by omega)).mono ?_
  rintro e w3 ⟨A3, c3, rfl, -, -, hb3⟩
  rw [← HZ.out]
  have HB3 := hide (HB2.out.trans (hb3.mono HB2.out.size))
  clear hb3
  generalize Vi.size (Vi.zz n) = z at *
  have hz1 := Vi.size_pos v
  go_wp2_with fail
  refine (HU.out _).mono ?_
  rintro e w' ⟨rfl, rfl⟩
  generalize Vi.size u = su at *
  go_wp2_with fail
  refine (HV.out _).mono ?_
  rintro e w' ⟨rfl, rfl⟩
  generalize hsv : Vi.size v = sv at *
  have HSV := hide hsv
  clear hsv
  go_wp2_with fail
  refine (HV.out _).mono ?_
  rintro e w' ⟨rfl, rfl⟩
  go_wp2_with fail
  refine (H0.out _).mono ?_
  rintro e w' ⟨rfl, rfl⟩
  go_wp2_with fail
  refine (HP.out _).mono ?_
  rintro e w4 ⟨A4, c4, rfl, -, -, hb4⟩
  have HB4 := hide (HB3.out.trans (hb4.mono HB3.out.size))
  clear hb4
  go_wp2_with fail
  refine (num_at _ 11 11 w4 rfl (by omega) (by omega) (by omega) (by omega)).mono ?_
  rintro e w' ⟨rfl, rfl⟩
  have hn11 : num sv 11 = sv := by unfold num; omega
  rw [hn11]
  have HN := hide hn11
  clear hn11
  go_wp2_with fail
  refine (HV.out _).mono ?_
  rintro e w' ⟨rfl, rfl⟩
  go_wp2_with fail
  go_ret
  exact ⟨rfl, HB4.out⟩

theorem walk_gt (u v : Nat) (n : Int) (w : World) (hu : u < 18446744073709551616) (hv : v < 18446744073709551616) (h1 : -9223372036854775808 ≤ n) (h2 : n ≤ 9223372036854775807) (huv : u < v) :
    Calls Try.prog 3 #[.int .u64 v, .int .u64 u, .int .i64 n] w fun e w' => e = .returned (.bool true) ∧ Below w.heap.size w w' := by
  go_enter Try.func3, Try.ntmps3
  go_wp2_with fail
  refine (vfirst_any _).mono ?_
  rintro e w1 ⟨rfl, hb1⟩
  have HB1 := hide hb1
  have hs0 := Vi.size_lt (show 0 < 128 by omega)
  have hszz := Vi.size_zz n
  have hmono := Vi.size_mono v u (Nat.le_of_lt huv)
  have hten := Vi.size_le10 hv
  have HV := hide (fun W => size_any v W hv)
  have HU := hide (fun W => size_any u W hu)
  have H0 : Hid (∀ W, Calls Try.prog 6 #[.int .u64 0] W fun e w' => e = .returned (.int .i64 1) ∧ W = w') := hide (fun W => by
    have h := size_any 0 W (by omega)
    rw [hs0] at h; exact h)
  have HP := hide (fun W => put_nil v W hv)
  have HZ := hide hszz
  clear hb1 hs0 hszz hu hv
  go_wp2_with fail
  refine (putInt_nil n w1 h1 h2).mono ?_
  rintro e w2 ⟨A2, c2, rfl, -, -, hb2⟩
  have HB2 := hide (HB1.out.trans (hb2.mono HB1.out.size))
  clear hb2
  go_wp2_with fail
  refine (putInt_nil (-1 - n) w2 (by omega) (by omega)).mono ?_
  rintro e w3 ⟨A3, c3, rfl, -, -, hb3⟩
  rw [← HZ.out]
  have HB3 := hide (HB2.out.trans (hb3.mono HB2.out.size))
  clear hb3
  generalize Vi.size (Vi.zz n) = z at *
  have hz1 := Vi.size_pos v
  go_wp2_with fail
  refine (HU.out _).mono ?_
  rintro e w' ⟨rfl, rfl⟩
  generalize Vi.size u = su at *
  go_wp2_with fail
  refine (HV.out _).mono ?_
  rintro e w' ⟨rfl, rfl⟩
  generalize hsv : Vi.size v = sv at *
  have HSV := hide hsv
  clear hsv
  go_wp2_with fail
  refine (HV.out _).mono ?_
  rintro e w' ⟨rfl, rfl⟩
  go_wp2_with fail
  refine (H0.out _).mono ?_
  rintro e w' ⟨rfl, rfl⟩
  go_wp2_with fail
  refine (HP.out _).mono ?_
  rintro e w4 ⟨A4, c4, rfl, -, -, hb4⟩
  have HB4 := hide (HB3.out.trans (hb4.mono HB3.out.size))
  clear hb4
  go_wp2_with fail
  refine (num_at _ 11 11 w4 rfl (by omega) (by omega) (by omega) (by omega)).mono ?_
  rintro e w' ⟨rfl, rfl⟩
  have hn11 : num sv 11 = sv := by unfold num; omega
  rw [hn11]
  have HN := hide hn11
  clear hn11
  go_wp2_with fail
  refine (HV.out _).mono ?_
  rintro e w' ⟨rfl, rfl⟩
  go_wp2_with fail
  go_ret
  exact ⟨rfl, HB4.out⟩

theorem walk (a0 a1 a2 : Int) (w : World) (h0 : 0 ≤ a0) (g0 : a0 ≤ 18446744073709551615) (h1 : 0 ≤ a1) (g1 : a1 ≤ 18446744073709551615) (h2 : -9223372036854775808 ≤ a2) (g2 : a2 ≤ 9223372036854775807) :
    Calls Try.prog 3 #[.int .u64 a0, .int .u64 a1, .int .i64 a2] w fun e w' => e = .returned (.bool true) ∧ Below w.heap.size w w' := by
  obtain ⟨u, rfl⟩ := Int.eq_ofNat_of_zero_le h0
  obtain ⟨v, rfl⟩ := Int.eq_ofNat_of_zero_le h1
  rcases Nat.lt_or_ge v u with h | h
  · exact walk_gt v u a2 w (by omega) (by omega) h2 g2 h
  · exact walk_le u v a2 w (by omega) (by omega) h2 g2 h

/-! ### THE ROW's STEP: WRITTEN OUT: LEAVE IT -/
set_option maxRecDepth 100000 in
theorem lifted (os : Os) (started : os.Started) (H : Type) (enc : TypeId × Value → H) :
    ReturnsInHanded {} Try.checked os 3 .any (Rows.vintOrderSpec.pre6 enc Try.prog Try.f3 Rows.vintOrderRow.domain false) (Rows.vintOrderSpec.post enc Try.prog Try.f3 false true false false) := by
  refine returnsInHanded_of_change (C := Try.checked) own started (by kernel_rfl) Try.func3
    (ChangeSpec.witness6 (enc := enc) (C := Try.checked) false ⟨#[], #[.int .u64 0, .int .u64 0, .int .i64 0], []⟩ 8 (by kernel_rfl) (by kernel_rfl) (by kernel_rfl) (by kernel_rfl)) ?_
  intro W base args ds gs before hval0 hW hcnd _
  have hval : ∀ (j : Nat) t v, Try.f3.params[j]? = some t → args[j]? = some v → Value.okWide Try.prog W .any base t v := hval0
  have hW' := hW
  obtain ⟨p, q, hA0, hV, rfl, hfz, hnd⟩ := hW
  have hA : DataW.TrodAll enc Try.prog W 0 (fun _ => true) true Try.f3.params.toList args.toList ds p := hA0
  rw [Try.params3] at hA hval
  obtain ⟨v0, vs0, d0, ds0, p0, q0, hargs, rfl, rfl, h0, r0⟩ := trodAll_cons hA
  obtain ⟨v1, vs1, d1, ds1, p1, q1, rfl, rfl, rfl, h1, r1⟩ := trodAll_cons r0
  obtain ⟨v2, vs2, d2, ds2, p2, q2, rfl, rfl, rfl, h2, r2⟩ := trodAll_cons r1
  obtain ⟨rfl, rfl, rfl⟩ := trodAll_nil r2
  obtain rfl : args = #[v0, v1, v2] := by cases args; simp_all
  obtain ⟨rfl, rfl⟩ := trodVars_none hV
  obtain ⟨a0, rfl, rfl, rfl, w0⟩ := open_int Try.underlying22 (hval 0 22 v0 rfl rfl) h0
  obtain ⟨a1, rfl, rfl, rfl, w1⟩ := open_int Try.underlying22 (hval 1 22 v1 rfl rfl) h1
  obtain ⟨a2, rfl, rfl, rfl, w2⟩ := open_int Try.underlying2 (hval 2 2 v2 rfl rfl) h2
  clear hA0 hval0
  have hb0 := bounds_u64 w0
  have hb1 := bounds_u64 w1
  have hb2 := bounds_i64 w2
  refine (walk a0 a1 a2 W hb0.1 hb0.2 hb1.1 hb1.2 hb2.1 hb2.2).mono fun e W' ⟨he, bel⟩ => ?_
  subst he
  exact ⟨_, rfl, _, _, _, [], _, [], hW', trodAll_mk1 (shut_bool Try.underlying4 _), (trodAll_cons_mk (shut_int Try.underlying22 w0) (trodAll_cons_mk (shut_int Try.underlying22 w1) (trodAll_cons_mk (shut_int Try.underlying2 w2) trodAll_mk0))), rfl, bel.frame _, fun h => by cases h⟩

theorem over : Rows.vintOrderRow.holds Try.pinned (OpenSpec.ofChange Rows.vintOrderSpec) :=
  OpenClaim.holds_of_wide 3 Try.f3 rfl rfl rfl rfl rfl rfl rfl ⟨rfl, rfl, rfl, rfl, rfl⟩ rfl rfl rfl rfl rfl (by kernel_rfl) Try.func3 (by kernel_rfl)
    (of_decide_eq_true (by kernel_rfl)) (by unfold Func.isWrapper; first | (rw [if_pos (by decide +kernel)]; kernel_rfl) | (rw [if_neg (by decide +kernel)]; exact ⟨rfl, rfl⟩))
    (fun os started H enc _ => lifted os started H enc)

/-- ████ THE STATEMENT ████ -/
theorem proved : Rows.VintOrderSaid :=
  over
end Go.Proofs.Ytdiplknlkmealaa.OrderLaw
