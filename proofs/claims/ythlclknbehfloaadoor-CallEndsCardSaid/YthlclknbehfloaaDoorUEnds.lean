/-
  CallEnds, walked.
  CallEnds, proved.
-/
import Derived.Test.YthlclknbehfloaaDoorU2
import Derived.Test.YthlclknbehfloaaDoorT2
namespace Go.Proofs.YthlclknbehfloaaDoor
open Go.RowKit Go.Maps

theorem below_drew_c {w w' : World} (h : ∃ k, w' = w.drewN k) : Below w.heap.size w w' := by
  obtain ⟨k, rfl⟩ := h; exact below_drewN (Below.refl _ _) k
theorem sameBytes_same (A A' : Option Addr) (cap cap' n : Nat) (l : List UInt8) {w : World} (hn : l.length = n) (hl : n ≤ 1000000) (hr : Reads w A l) (hr' : Reads w A' l) :
    Calls Tryd.prog 18 #[.slice A n cap, .slice A' n cap'] w fun e w' => e = .returned (.bool true) ∧ ∃ k, w' = w.drewN k :=
  (sameBytes_any A A' cap cap' n n l l w hn hn hl hl hr hr').mono fun e w' ⟨he, hw⟩ => ⟨by rw [he]; simp, hw⟩

set_option maxRecDepth 100000 in
set_option maxHeartbeats 1000000 in
theorem callEnds_walk (w : World) (p : Nat → Addr) (hs : Sents w p) (n0 n1 : Int) (h01 : -9223372036854775808 ≤ n0) (h02 : n0 ≤ 9223372036854775807) (h11 : -9223372036854775808 ≤ n1) (h12 : n1 ≤ 9223372036854775807) (lo : Bool) (A : Option Addr) (c n : Nat) (b : List UInt8) (ha : Arg w A c b) (hn : b.length = n) :
    Calls Tryd.prog 4 #[.int .i64 n0, .int .i64 n1, .bool lo, .slice A n c] w fun e w' => e = .returned (.bool true) ∧ Below w.heap.size w w' := by
  have HS := hide hs
  have HA := hide ha
  have HN := hide hn
  have HF := hide (caFirst_any (E := fun j => j < 19) (by omega) (by omega) w p hs)
  have h8 : num n0 8 < 8 := num_lt n0 8 (by omega)
  have h10 : num n1 10 < 10 := num_lt n1 10 (by omega)
  obtain ⟨u, hu⟩ : ∃ u, num n0 8 = u := ⟨_, rfl⟩
  obtain ⟨m, hm⟩ : ∃ m, num n1 10 = m := ⟨_, rfl⟩
  rw [hu] at h8
  rw [hm] at h10
  have HU := hide hu
  have HM := hide hm
  have hw1 : IntKind.i64.wrap ((u : Int) + 1) = (u : Int) + 1 := IntWalk.i64_in _ (by omega)
  have hw2 : IntKind.i64.wrap ((m : Int) + 1) = (m : Int) + 1 := IntWalk.i64_in _ (by omega)
  clear hs ha hn hu hm
  by_cases hle : n ≤ 100
  · obtain ⟨o, ho⟩ : ∃ o : Int, o = if lo = true then 2 else 1 := ⟨_, rfl⟩
    have hbo : St.BadO o := by rw [ho]; cases lo <;> simp [St.BadO]
    have HC := hide (St.cput_of [111] (by decide) b o hbo (u + 1) m (by omega) (St.sE m o) rfl)
    have HO := hide ho
    have HBO := hide hbo
    have hnc : (n : Int) ≤ 100 := by omega
    clear ho hbo
    cases lo
    · have ho := HO.out
      simp only [if_false, Bool.false_eq_true] at ho
      subst ho
      go_enter Tryd.func4, Tryd.ntmps4
      go_wp2_with (first
        | (go_at_call 22; refine HF.out.mono ?_; rintro e w1 ⟨rfl, hb⟩; have HB1 := hide hb; clear hb)
        | (have := HB2.out; clear this; go_at_call 23; refine (num_at n1 10 10 w1 (by omega) (by omega) (by omega) h11 h12).mono ?_; rintro e w1' ⟨rfl, rfl⟩; rw [HM.out])
        | (go_at_call 23; refine (num_at n0 8 8 w1 (by omega) (by omega) (by omega) h01 h02).mono ?_; rintro e w1' ⟨rfl, rfl⟩; rw [HU.out]; have HB2 := HB1)
        | (go_at_call 9; refine (stNew_any w w1 HB1.out).mono ?_; rintro e w2 ⟨sb, S, rfl, h, -, -⟩; have H2 := hide h; clear h)
        | (go_at_call 24; refine (caNew_any H2.out (u + 1) (by omega) ((u : Int) + 1) (by push_cast; rfl)).mono ?_; rintro e w3 ⟨rfl, h, -⟩; have H3 := hide h; clear h H2; generalize w2.heap.size = cb at *)
        | fail)
      go_loopw [14] (fun i wr => ∃ (j : Nat) (S D : Nat → Prop), j ≤ m ∧ i = .int .i64 j ∧ CaS w S D sb cb (u + 1) 0 (St.sE j 1) 0 wr) (fun i _ => m - (intOf i).toNat)
      case atStart => exact ⟨0, S, _, Nat.zero_le _, rfl, H3.out⟩
      case round =>
        obtain ⟨j, S4, D4, hj, rfl, h4⟩ := hrel
        have H4 := hide h4
        clear h4
        by_cases hlt : j < m
        · go_wp2_with (first
            | (go_at_call 12; have h5 := H4.out.grow (balloc (Below.refl _ _) (.cells #[.int .i64 1] 3)); refine (StS.script h5.st (some ⟨wr.heap.size, 0, none⟩) 1 1 [1] (IntsArg.made wr [1] _ _ 1 rfl rfl (by omega) (by simp)) rfl (by simp [St.sE]; omega)).mono ?_; rintro e w5 ⟨rfl, S5, h, hg⟩; rw [St.sE_more] at h; have H5 := hide (h5.other h hg (Nat.le_refl _)); clear h hg h5)
            | fail)
          exact ⟨⟨j + 1, S5, D4, by omega, by simp, H5.out⟩, by simp [intOf]; omega⟩
        · obtain rfl : j = m := by omega
          have haW : Arg wr A c b := HA.out.below H4.out.st.below (Nat.le_refl _)
          have hAx : ∀ x o, A = some ⟨x, o, none⟩ → b ≠ [] → ¬ S4 x ∧ ¬ x = cb := fun x o e hb => by
            have hx : x < w.heap.size := by
              rcases HA.out.reads with h1 | ⟨g, off, e1, hlt, -⟩
              · exact absurd h1 hb
              · rw [e1] at e; injection e with e; injection e with e _ _; subst e; exact hlt
            exact ⟨fun hS => by have := H4.out.st.lo x (.inl hS); omega, fun e => by have := H4.out.lo; omega⟩
          have HPUT := hide (H4.out.putE (E := fun j => j < 19) (by omega) (by omega) p HS.out (by omega) (by omega) [111] (by simp) A c n b haW HN.out (by omega) hAx)
          clear haW hAx
          by_cases hmu : j < u + 1
          · have hr : (St.cput (u + 1) [111] b (St.sE j 1)).r = none := by rw [HC.out.1, if_pos hmu]
            have hk : (St.cput (u + 1) [111] b (St.sE j 1)).k = j + 1 := by rw [HC.out.2.1]; omega
            have hob : (St.cput (u + 1) [111] b (St.sE j 1)).st.objs [111] = some b := by rw [HC.out.2.2, if_pos (.inl hmu)]
            have hmin : min ((j : Int) + 1) ((u : Int) + 1) = (j : Int) + 1 := by omega
            have e1 : (0 : Int) + ((j + 1 : Nat) : Int) = (j : Int) + 1 := by push_cast; omega
            have HR := hide hr
            have HK := hide hk
            have HOB := hide hob
            have HE1 := hide e1
            clear hr hk hob e1
            go_wp2_with (first
              | (go_at_call 25; refine HPUT.out.mono ?_; rintro e w5 ⟨rfl, S5, D5, h, -⟩; rw [HK.out, HE1.out] at h; rw [HR.out]; have HBY := hide (StS.bytes h.st [111] (by simp)); rw [HOB.out] at HBY; have H5 := hide h; clear h; unfold errR; (try unfold errV))
              | (go_at_call 15; refine HBY.out.mono ?_; rintro e w6 ⟨v, rfl, ho, hb⟩; have H6 := hide (H5.out.grow hb); obtain ⟨A6, c6, rfl, ha6⟩ := own_n (n := n) ho HN.out; have HA6 := hide ha6; clear ho hb ha6 H5; simp only [Option.isSome_some])
              | (go_at_call 26; refine H6.out.askedOf.mono ?_; rintro e w8 ⟨rfl, rfl⟩)
              | (go_at_call 18; refine (sameBytes_same A6 A c6 c n b HN.out (by omega) HA6.out.reads (HA.out.below H6.out.st.below (Nat.le_refl _)).reads).mono ?_; rintro e w9 ⟨rfl, hw⟩; have H9 := hide (H6.out.st.below.trans ((below_drew_c hw).mono H6.out.st.below.size)); clear hw)
              | fail)
            go_ret
            exact ⟨rfl, H9.out⟩
          · have hr : (St.cput (u + 1) [111] b (St.sE j 1)).r = some 10 := by rw [HC.out.1, if_neg hmu]
            have hk : (St.cput (u + 1) [111] b (St.sE j 1)).k = u + 1 := by rw [HC.out.2.1]; omega
            have hob : (St.cput (u + 1) [111] b (St.sE j 1)).st.objs [111] = none := by rw [HC.out.2.2]; rw [if_neg (by omega)]; rfl
            have hmin : min ((j : Int) + 1) ((u : Int) + 1) = (u : Int) + 1 := by omega
            have e1 : (0 : Int) + ((u + 1 : Nat) : Int) = (u : Int) + 1 := by push_cast; omega
            have HR := hide hr
            have HK := hide hk
            have HOB := hide hob
            have HE1 := hide e1
            clear hr hk hob e1
            have k10 := eql_nil (p 10)
            unfold errV at k10
            go_wp2_with (first
              | (go_at_call 25; refine HPUT.out.mono ?_; rintro e w5 ⟨rfl, S5, D5, h, -⟩; rw [HK.out, HE1.out] at h; rw [HR.out]; have HBY := hide (StS.bytes h.st [111] (by simp)); rw [HOB.out] at HBY; have H5 := hide h; clear h; unfold errR; (try unfold errV))
              | (go_at_call 15; refine HBY.out.mono ?_; rintro e w6 ⟨v, rfl, ho, hb⟩; have H6 := hide (H5.out.grow hb); obtain ⟨A6, c6, rfl, -⟩ := own_n (n := 0) ho rfl; clear ho hb H5; simp only [Option.isSome_none])
              | (go_at_call 17; refine (is_sent w6 p (HS.out.below H6.out.st.below) 10 (by omega) 111).mono ?_; rintro e w7 ⟨rfl, hb⟩; have H7 := hide (H6.out.grow hb); clear hb)
              | (go_at_call 26; refine H7.out.askedOf.mono ?_; rintro e w8 ⟨rfl, rfl⟩)
              | fail)
            go_ret
            exact ⟨rfl, H7.out.st.below⟩
    · have ho := HO.out
      simp only [if_true] at ho
      subst ho
      go_enter Tryd.func4, Tryd.ntmps4
      go_wp2_with (first
        | (go_at_call 22; refine HF.out.mono ?_; rintro e w1 ⟨rfl, hb⟩; have HB1 := hide hb; clear hb)
        | (have := HB2.out; clear this; go_at_call 23; refine (num_at n1 10 10 w1 (by omega) (by omega) (by omega) h11 h12).mono ?_; rintro e w1' ⟨rfl, rfl⟩; rw [HM.out])
        | (go_at_call 23; refine (num_at n0 8 8 w1 (by omega) (by omega) (by omega) h01 h02).mono ?_; rintro e w1' ⟨rfl, rfl⟩; rw [HU.out]; have HB2 := HB1)
        | (go_at_call 9; refine (stNew_any w w1 HB1.out).mono ?_; rintro e w2 ⟨sb, S, rfl, h, -, -⟩; have H2 := hide h; clear h)
        | (go_at_call 24; refine (caNew_any H2.out (u + 1) (by omega) ((u : Int) + 1) (by push_cast; rfl)).mono ?_; rintro e w3 ⟨rfl, h, -⟩; have H3 := hide h; clear h H2; generalize w2.heap.size = cb at *)
        | fail)
      go_loopw [14] (fun i wr => ∃ (j : Nat) (S D : Nat → Prop), j ≤ m ∧ i = .int .i64 j ∧ CaS w S D sb cb (u + 1) 0 (St.sE j 2) 0 wr) (fun i _ => m - (intOf i).toNat)
      case atStart => exact ⟨0, S, _, Nat.zero_le _, rfl, H3.out⟩
      case round =>
        obtain ⟨j, S4, D4, hj, rfl, h4⟩ := hrel
        have H4 := hide h4
        clear h4
        by_cases hlt : j < m
        · go_wp2_with (first
            | (go_at_call 12; have h5 := H4.out.grow (balloc (Below.refl _ _) (.cells #[.int .i64 2] 3)); refine (StS.script h5.st (some ⟨wr.heap.size, 0, none⟩) 1 1 [2] (IntsArg.made wr [2] _ _ 1 rfl rfl (by omega) (by simp)) rfl (by simp [St.sE]; omega)).mono ?_; rintro e w5 ⟨rfl, S5, h, hg⟩; rw [St.sE_more] at h; have H5 := hide (h5.other h hg (Nat.le_refl _)); clear h hg h5)
            | fail)
          exact ⟨⟨j + 1, S5, D4, by omega, by simp, H5.out⟩, by simp [intOf]; omega⟩
        · obtain rfl : j = m := by omega
          have haW : Arg wr A c b := HA.out.below H4.out.st.below (Nat.le_refl _)
          have hAx : ∀ x o, A = some ⟨x, o, none⟩ → b ≠ [] → ¬ S4 x ∧ ¬ x = cb := fun x o e hb => by
            have hx : x < w.heap.size := by
              rcases HA.out.reads with h1 | ⟨g, off, e1, hlt, -⟩
              · exact absurd h1 hb
              · rw [e1] at e; injection e with e; injection e with e _ _; subst e; exact hlt
            exact ⟨fun hS => by have := H4.out.st.lo x (.inl hS); omega, fun e => by have := H4.out.lo; omega⟩
          have HPUT := hide (H4.out.putE (E := fun j => j < 19) (by omega) (by omega) p HS.out (by omega) (by omega) [111] (by simp) A c n b haW HN.out (by omega) hAx)
          clear haW hAx
          by_cases hmu : j < u + 1
          · have hr : (St.cput (u + 1) [111] b (St.sE j 2)).r = none := by rw [HC.out.1, if_pos hmu]
            have hk : (St.cput (u + 1) [111] b (St.sE j 2)).k = j + 1 := by rw [HC.out.2.1]; omega
            have hob : (St.cput (u + 1) [111] b (St.sE j 2)).st.objs [111] = some b := by rw [HC.out.2.2, if_pos (.inl hmu)]
            have hmin : min ((j : Int) + 1) ((u : Int) + 1) = (j : Int) + 1 := by omega
            have e1 : (0 : Int) + ((j + 1 : Nat) : Int) = (j : Int) + 1 := by push_cast; omega
            have HR := hide hr
            have HK := hide hk
            have HOB := hide hob
            have HE1 := hide e1
            clear hr hk hob e1
            go_wp2_with (first
              | (go_at_call 25; refine HPUT.out.mono ?_; rintro e w5 ⟨rfl, S5, D5, h, -⟩; rw [HK.out, HE1.out] at h; rw [HR.out]; have HBY := hide (StS.bytes h.st [111] (by simp)); rw [HOB.out] at HBY; have H5 := hide h; clear h; unfold errR; (try unfold errV))
              | (go_at_call 15; refine HBY.out.mono ?_; rintro e w6 ⟨v, rfl, ho, hb⟩; have H6 := hide (H5.out.grow hb); obtain ⟨A6, c6, rfl, ha6⟩ := own_n (n := n) ho HN.out; have HA6 := hide ha6; clear ho hb ha6 H5; simp only [Option.isSome_some])
              | (go_at_call 26; refine H6.out.askedOf.mono ?_; rintro e w8 ⟨rfl, rfl⟩)
              | (go_at_call 18; refine (sameBytes_same A6 A c6 c n b HN.out (by omega) HA6.out.reads (HA.out.below H6.out.st.below (Nat.le_refl _)).reads).mono ?_; rintro e w9 ⟨rfl, hw⟩; have H9 := hide (H6.out.st.below.trans ((below_drew_c hw).mono H6.out.st.below.size)); clear hw)
              | fail)
            go_ret
            exact ⟨rfl, H9.out⟩
          · have hr : (St.cput (u + 1) [111] b (St.sE j 2)).r = some 10 := by rw [HC.out.1, if_neg hmu]
            have hk : (St.cput (u + 1) [111] b (St.sE j 2)).k = u + 1 := by rw [HC.out.2.1]; omega
            have hob : (St.cput (u + 1) [111] b (St.sE j 2)).st.objs [111] = some b := by rw [HC.out.2.2]; rw [if_pos (by simp)]
            have hmin : min ((j : Int) + 1) ((u : Int) + 1) = (u : Int) + 1 := by omega
            have e1 : (0 : Int) + ((u + 1 : Nat) : Int) = (u : Int) + 1 := by push_cast; omega
            have HR := hide hr
            have HK := hide hk
            have HOB := hide hob
            have HE1 := hide e1
            clear hr hk hob e1
            have k10 := eql_nil (p 10)
            unfold errV at k10
            go_wp2_with (first
              | (go_at_call 25; refine HPUT.out.mono ?_; rintro e w5 ⟨rfl, S5, D5, h, -⟩; rw [HK.out, HE1.out] at h; rw [HR.out]; have HBY := hide (StS.bytes h.st [111] (by simp)); rw [HOB.out] at HBY; have H5 := hide h; clear h; unfold errR; (try unfold errV))
              | (go_at_call 15; refine HBY.out.mono ?_; rintro e w6 ⟨v, rfl, ho, hb⟩; have H6 := hide (H5.out.grow hb); obtain ⟨A6, c6, rfl, ha6⟩ := own_n (n := n) ho HN.out; have HA6 := hide ha6; clear ho hb ha6 H5; simp only [Option.isSome_some])
              | (go_at_call 17; refine (is_sent w6 p (HS.out.below H6.out.st.below) 10 (by omega) 111).mono ?_; rintro e w7 ⟨rfl, hb⟩; have H7 := hide (H6.out.grow hb); have HA7 := hide (HA6.out.below hb (Nat.le_refl _)); clear hb)
              | (go_at_call 26; refine H7.out.askedOf.mono ?_; rintro e w8 ⟨rfl, rfl⟩)
              | (go_at_call 18; refine (sameBytes_same A6 A c6 c n b HN.out (by omega) HA7.out.reads (HA.out.below H7.out.st.below (Nat.le_refl _)).reads).mono ?_; rintro e w9 ⟨rfl, hw⟩; have H9 := hide (H7.out.st.below.trans ((below_drew_c hw).mono H7.out.st.below.size)); clear hw)
              | fail)
            go_ret
            exact ⟨rfl, H9.out⟩
  · go_enter Tryd.func4, Tryd.ntmps4
    go_wp2_with (first
      | (go_at_call 22; refine HF.out.mono ?_; rintro e w1 ⟨rfl, hb⟩; have HB1 := hide hb; clear hb)
      | (have := HB2.out; clear this; go_at_call 23; refine (num_at n1 10 10 w1 (by omega) (by omega) (by omega) h11 h12).mono ?_; rintro e w1' ⟨rfl, rfl⟩; rw [HM.out])
      | (go_at_call 23; refine (num_at n0 8 8 w1 (by omega) (by omega) (by omega) h01 h02).mono ?_; rintro e w1' ⟨rfl, rfl⟩; rw [HU.out]; have HB2 := HB1)
      | fail)
    go_ret
    exact ⟨rfl, HB1.out⟩
end Go.Proofs.YthlclknbehfloaaDoor

namespace Go.Proofs.YthlclknbehfloaaDoor.CallEndsLaw
open Go.Proofs.YthlclknbehfloaaDoor
open Go.RowKit Go.ChangeShapes Go.WideShapes Go.ChangeAt

set_option maxRecDepth 100000 in
theorem lifted (os : Os) (started : os.Started) (H : Type) (enc : TypeId × Value → H) :
    ReturnsInHanded {} Tryd.checked os 4 .any (fun w args => (Rows.callEndsSpec.pre enc Tryd.prog Tryd.f4 [] false w args ∧ laidMetH Tryd.prog laidErr w) ∧ sizedMet enc Tryd.prog Tryd.f4 (OpenSpec.ofChange Rows.callEndsSpec) false w args)
      (Rows.callEndsSpec.post enc Tryd.prog Tryd.f4 false true false false) := by
  refine returnsInHanded_of_change_and (C := Tryd.checked) (X := fun w _ => laidMetH Tryd.prog laidErr w) (fun _ _ _ hh h => h.of_heap hh) own started (by kernel_rfl) Tryd.func4
    (ChangeSpec.witness_shaped (enc := enc) (C := Tryd.checked) (os := os) (X := fun w _ => laidMetH Tryd.prog laidErr w) false (World.doorLaid Tryd.prog 400 os) #[.int .i64 0, .int .i64 0, .bool false, .slice none 0 0] 8 rfl (World.shaped_of_RefB (by kernel_rfl) (by kernel_rfl)) (by kernel_rfl) (by kernel_rfl) (by kernel_rfl) (door_met_err os _)) ?_
  intro W base args ds gs before hval0 hW _ _ hL _
  have hval : ∀ (j : Nat) t v, Tryd.f4.params[j]? = some t → args[j]? = some v → Value.okWide Tryd.prog W .any base t v := hval0
  have hW' := hW
  obtain ⟨p, q, hA0, hV, rfl, hfz, hnd⟩ := hW
  have hA : DataW.TrodAll enc Tryd.prog W 0 (fun _ => true) true Tryd.f4.params.toList args.toList ds p := hA0
  rw [Tryd.params4] at hA hval
  obtain ⟨v0, vs0, d0, ds0, p0, q0, hargs, rfl, rfl, h0, r0⟩ := trodAll_cons hA
  obtain ⟨v1, vs1, d1, ds1, p1, q1, rfl, rfl, rfl, h1, r1⟩ := trodAll_cons r0
  obtain ⟨v2, vs2, d2, ds2, p2, q2, rfl, rfl, rfl, h2, r2⟩ := trodAll_cons r1
  obtain ⟨v3, vs3, d3, ds3, p3, q3, rfl, rfl, rfl, h3, r3⟩ := trodAll_cons r2
  obtain ⟨rfl, rfl, rfl⟩ := trodAll_nil r3
  obtain rfl : args = #[v0, v1, v2, v3] := by cases args; simp_all
  obtain ⟨rfl, rfl⟩ := trodVars_none hV
  obtain ⟨a0, rfl, rfl, rfl, w0⟩ := open_int Tryd.underlying3 (hval 0 3 v0 rfl rfl) h0
  have hb0 := bounds_i64 w0
  obtain ⟨a1, rfl, rfl, rfl, w1⟩ := open_int Tryd.underlying3 (hval 1 3 v1 rfl rfl) h1
  have hb1 := bounds_i64 w1
  obtain ⟨a2, rfl, rfl, rfl⟩ := open_bool Tryd.underlying4 (hval 2 4 v2 rfl rfl) h2
  obtain ⟨a3, len3, cap3, rfl⟩ := okWide_slice Tryd.underlying22 (hval 3 22 v3 rfl rfl)
  have k3 := h3
  have lt3 : ∀ x ∈ p3, x.block < W.heap.size := by obtain ⟨m, hm⟩ := k3; exact DataW.trod_lt m _ _ _ hm
  obtain ⟨l3, rfl, w3⟩ := arg_of h3
  clear hA0 hval0
  obtain ⟨ps, hsent⟩ := sents_of_err hL
  refine (callEnds_walk W ps hsent a0 a1 hb0.1 hb0.2 hb1.1 hb1.2 a2 a3 cap3 _ l3 w3 rfl).mono fun e W' ⟨he, bel⟩ => ?_
  subst he
  exact ⟨_, rfl, _, _, _, [], _, [], hW', trodAll_mk1 (shut_bool Tryd.underlying4 _), (trodAll_cons_mk (shut_int Tryd.underlying3 w0) (trodAll_cons_mk (shut_int Tryd.underlying3 w1) (trodAll_cons_mk (shut_bool Tryd.underlying4 _) (trodAll_cons_mk (Below.trod laidOut (by kernel_rfl) (of_decide_eq_true (by kernel_rfl)) k3 bel lt3) trodAll_mk0)))), rfl, bel.frame _, fun h => by cases h⟩

theorem row : Rows.CallEndsSaid :=
  OpenClaim.holds_of_wide 4 Tryd.f4 rfl rfl rfl rfl rfl rfl rfl ⟨rfl, rfl, rfl, rfl, rfl⟩ rfl rfl rfl rfl rfl (by kernel_rfl) Tryd.func4 (by kernel_rfl)
    (of_decide_eq_true (by kernel_rfl)) (by unfold Func.isWrapper; first | (rw [if_pos (by decide +kernel)]; kernel_rfl) | (rw [if_neg (by decide +kernel)]; exact ⟨rfl, rfl⟩))
    (fun os started H enc _ => lifted os started H enc)

theorem proved : Rows.CallEndsCardSaid :=
  Claim7.holds_tied_plain_at .later [] _ true _ true
    row (fun _ h => by cases h) (by kernel_rfl) (fun _ h => by cases h) callEnds_row_tie rfl ⟨rfl, rfl⟩ (by kernel_rfl) rfl
    (fun f fn hf hfn => by
      obtain rfl : f = 4 := Option.some.inj ((show Tryd.prog.funcNamed "cordwood/cordwoodlaw12.CallEnds" = some 4 by kernel_rfl).symm.trans hf) |>.symm
      obtain rfl : fn = Tryd.f4 := (Option.some.inj (Tryd.func4.symm.trans hfn)).symm
      exact ⟨by kernel_rfl, fun j t ht => by
        rw [Tryd.params4] at ht
        have hm : t ∈ [3, 3, 4, 22] := by simpa using Array.mem_of_getElem? ht
        have hall : ([3, 3, 4, 22].all fun u => !Tryd.prog.wantsStandIn u) = true := by kernel_rfl
        exact (show Tryd.prog.wantsStandIn t = false by simpa using List.all_eq_true.1 hall t hm)⟩)
    (by kernel_rfl)
end Go.Proofs.YthlclknbehfloaaDoor.CallEndsLaw
