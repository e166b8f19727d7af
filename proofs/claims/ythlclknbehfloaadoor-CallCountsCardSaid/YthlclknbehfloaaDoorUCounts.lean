/-
  What the laid errors give the walks, where a row lists those alone that a client's Put tells.
  CallCounts, plainly: how often a client has asked behind so many calls.
  CallCounts, walked.
  CallCounts, proved.
-/
import Derived.Test.YthlclknbehfloaaDoorT2
import Derived.Test.YthlclknbehfloaaDoorU2
namespace Go.Proofs.YthlclknbehfloaaDoor
open Go.RowKit Go.ChangeShapes Go.WideShapes Go.ChangeAt

def laidC3 : List (String × DataW Unit) := [("cordwood/api.ErrRange", Rows.laid_cordwood_api_ErrRange), ("cordwood/api.ErrName", Rows.laid_cordwood_api_ErrName), ("cordwood/api.ErrStore", Rows.laid_cordwood_api_ErrStore)]
theorem sents_of_c3 {W : World} (h : laidMetH Tryd.prog laidC3 W) : ∃ p, SentsOn (fun j => j = 4 ∨ j = 5 ∨ j = 10) W p := by
  rw [MakeChecks.laidMetH_plain _ _ _ (by kernel_rfl)] at h
  obtain ⟨p, hp⟩ := sents_of_js (W := W) [4, 5, 10] (by decide) h
  exact ⟨p, hp.mono fun j hj => by simp; omega⟩
theorem door_met_c3 (os : Os) (args : Array Value) : laidMetH Tryd.prog laidC3 ((World.doorLaid Tryd.prog 400 os).forCall (fun _ _ => 0) ⟨#[], args, []⟩).memory :=
  laidMetH_of_parts3 (fuel := 8) (laidMet_of_run' 8 (by kernel_rfl) (by kernel_rfl)) (by kernel_rfl) (by kernel_rfl)
end Go.Proofs.YthlclknbehfloaaDoor

namespace Go.Proofs.YthlclknbehfloaaDoor.St

theorem put_ok (k : Nm) (hk : Dk.valid k = true) (b : List UInt8) : ∀ (n : Nat) (last : Option Nat) (s : S), (agn (bareOf fun s => s.ask () (S.putF k b)) (n + 1) last s).r = none ∨ (agn (bareOf fun s => s.ask () (S.putF k b)) (n + 1) last s).r = some 10
  | n, last, s => by
    by_cases h : (bareOf (fun s => s.ask () (S.putF k b)) s).1 = some 10
    · rw [agn_more h]
      cases n with
      | zero => exact .inr rfl
      | succ n => exact put_ok k hk b n (some 10) _
    · rw [agn_stop h]
      by_cases e1 : s.out = 1
      · exact absurd (by simp [bareOf, S.ask, e1]) h
      · by_cases e2 : s.out = 2
        · exact absurd (by simp [bareOf, S.ask, e2]) h
        · exact .inl (by simp [bareOf, S.ask, e1, e2, S.putF, hk])
/-- Behind so many outcomes taken and so many asks. -/
structure AtC (outs : List Int) (at_ asked : Nat) (s : S) : Prop where
  script : s.script = outs.drop at_
  calls : s.calls = asked
/-- A call that may be done: it asks once more than there are bad outcomes ahead, t times at most. -/
theorem AtC.put {outs : List Int} {x y t : Nat} {s : S} (h : AtC outs x y s) (ht : 0 < t) (k : Nm) (hk : Dk.valid k = true) (b : List UInt8) :
    (cput t k b s).k = (if lead t (outs.drop x) = t then t else lead t (outs.drop x) + 1) ∧ AtC outs (x + (cput t k b s).k) (y + (cput t k b s).k) (cput t k b s).st ∧
      (cput t k b s).r = (if lead t (outs.drop x) = t then some 10 else none) := by
  obtain ⟨q1, q2, q3, q4⟩ := agn_lead (asks_bare (put_mild k b)) t none s
  rw [h.script] at q1 q2 q4
  refine ⟨q1, ⟨?_, ?_⟩, ?_⟩
  · show (agn _ t none s).st.script = _
    rw [q2, List.drop_drop]
  · show (agn _ t none s).st.calls = _
    rw [q3, h.calls]; push_cast; rfl
  · by_cases hl : lead t (outs.drop x) = t
    · rw [if_pos hl]; exact (q4 (.inl ht)).2 hl
    · rw [if_neg hl]
      obtain ⟨t', rfl⟩ : ∃ t', t = t' + 1 := ⟨t - 1, by omega⟩
      have hr := put_ok k hk b t' none s
      rcases hr with hr | hr
      · exact hr
      · exact absurd ((q4 (.inl ht)).1 hr) hl
end Go.Proofs.YthlclknbehfloaaDoor.St

namespace Go.Proofs.YthlclknbehfloaaDoor
open Go.RowKit Go.Maps

set_option maxRecDepth 100000 in
set_option maxHeartbeats 1000000 in
theorem callCounts_walk {E : Nat → Prop} (h5 : E 5) (h10 : E 10) (w : World) (p : Nat → Addr) (hs : SentsOn E w p) (n0 : Int) (h01 : -9223372036854775808 ≤ n0) (h02 : n0 ≤ 9223372036854775807) (A : Option Addr) (cap n : Nat) (zs : List Int) (hz : IntsArg w A cap zs) (hn : zs.length = n) :
    Calls Tryd.prog 6 #[.int .i64 n0, .slice A n cap] w fun e w' => e = .returned (.bool true) ∧ Below w.heap.size w w' := by
  have HS := hide hs
  have HZ := hide hz
  have HN := hide hn
  have HF := hide (caFirst_any h5 h10 w p hs)
  have H5E := hide h5
  have H10E := hide h10
  have h8 : num n0 8 < 8 := num_lt n0 8 (by omega)
  obtain ⟨u, hu⟩ : ∃ u, num n0 8 = u := ⟨_, rfl⟩
  rw [hu] at h8
  have HU := hide hu
  have hw1 : IntKind.i64.wrap ((u : Int) + 1) = (u : Int) + 1 := IntWalk.i64_in _ (by omega)
  have HA0 : Hid (∀ W : World, Arg W none 0 []) := hide (fun W => ⟨by simp, by omega, fun _ => rfl, .inl rfl⟩)
  clear hs hz hn hu h5 h10
  by_cases hle : n ≤ 20
  · go_enter Tryd.func6, Tryd.ntmps6
    go_wp2_with (first
      | (go_at_call 22; refine HF.out.mono ?_; rintro e w1 ⟨rfl, hb⟩; have HB1 := hide hb; clear hb)
      | (go_at_call 23; refine (num_at n0 8 8 w1 (by omega) (by omega) (by omega) h01 h02).mono ?_; rintro e w1' ⟨rfl, rfl⟩; rw [HU.out])
      | (go_at_call 9; refine (stNew_any w w1 HB1.out).mono ?_; rintro e w2 ⟨sb, S, rfl, h, -, -⟩; have H2 := hide h; clear h)
      | (go_at_call 24; refine (caNew_any H2.out (u + 1) (by omega) ((u : Int) + 1) (by push_cast; rfl)).mono ?_; rintro e w3 ⟨rfl, h, -⟩; have H3 := hide h; clear h H2; generalize w2.heap.size = cb at *)
      | (go_at_call 12; refine (StS.script H3.out.st A cap n zs (HZ.out.below H3.out.st.below (Nat.le_refl _)) HN.out (by have := HN.out; simp [St.S.new]; omega)).mono ?_; rintro e w4 ⟨rfl, S4, h, hg⟩; have H4 := hide (H3.out.other h hg (Nat.le_refl _)); clear h hg H3)
      | fail)
    go_loopw [9, 10, 11] (fun at_ asked i wr => ∃ (x y j : Nat) (s4 : St.S) (S D : Nat → Prop), j ≤ 25 ∧ at_ = .int .i64 x ∧ asked = .int .i64 y ∧ i = .int .i64 j ∧ x ≤ 9 * j ∧ y ≤ 8 * j ∧ St.AtC zs x y s4 ∧ CaS w S D sb cb (u + 1) y s4 (8 * j) wr) (fun _ _ i _ => 25 - (intOf i).toNat)
    case atStart => exact ⟨0, 0, 0, _, S4, _, by omega, rfl, rfl, rfl, by omega, by omega, ⟨by simp [St.S.scripted, St.S.new], rfl⟩, H4.out⟩
    case round =>
      obtain ⟨x, y, j, s4, S5, D5, hj, rfl, rfl, rfl, hx, hy, hat, h5⟩ := hrel
      have H5 := hide h5
      have HAT0 := hide hat
      clear h5 hat
      by_cases hlt : j < 25
      · have HPL := hide (HAT0.out.put (t := u + 1) (by omega) [120] (by decide) [])
        have HPUT := hide (H5.out.putE H5E.out H10E.out p HS.out (by omega) (by omega) [120] (by simp) none 0 0 [] (HA0.out _) rfl (by omega) (fun x o e => by cases e))
        have hxb : x ≤ 225 := by omega
        have hyb : y ≤ 200 := by omega
        have hjb : j < 25 := hlt
        go_wp2_with fail
        go_loopw [9, 12] (fun at_ nn wq => ∃ q : Nat, nn = .int .i64 q ∧ at_ = .int .i64 ((x : Int) + q) ∧ q ≤ u + 1 ∧ St.lead (u + 1) (zs.drop x) = q + St.lead (u + 1 - q) (zs.drop (x + q)) ∧ wr = wq) (fun _ nn _ => u + 1 - (intOf nn).toNat)
        case atStart => exact ⟨0, rfl, by simp, by omega, by simp, rfl⟩
        case round =>
          obtain ⟨q, rfl, rfl, hq, hld, rfl⟩ := hrel
          have HLD := hide hld
          clear hld
          by_cases hq1 : q = u + 1
          · have hlead : St.lead (u + 1) (zs.drop x) = u + 1 := by have := HLD.out; rw [hq1] at this; simpa [St.lead] using this
            subst hq1
            have hr : (St.cput (u + 1) [120] [] s4).r = some 10 := by rw [HPL.out.2.2, if_pos hlead]
            have hk : (St.cput (u + 1) [120] [] s4).k = u + 1 := by rw [HPL.out.1, if_pos hlead]
            have e1 : (y : Int) + ((u + 1 : Nat) : Int) = (y : Int) + ((u : Int) + 1) := by push_cast; omega
            have hat := HPL.out.2.1
            rw [hk] at hat
            have hcl : (St.cput (u + 1) [120] [] s4).st.calls = (y : Int) + ((u : Int) + 1) := by rw [hat.calls]; push_cast; omega
            have HAT := hide hat
            have HR := hide hr
            have HK := hide hk
            have HE1 := hide e1
            have HCL := hide hcl
            clear hat hr hk e1 hcl hlead
            have k10 := eql_nil (p 10)
            unfold errV at k10
            go_wp2_with (first
              | (go_at_call 25; refine HPUT.out.mono ?_; rintro e w5 ⟨rfl, S5, D5, h, -⟩; rw [HK.out] at h; rw [HR.out]; have H5 := hide h; rw [HE1.out] at h; have HAS := hide h.askedOf; have HCA := hide h.st.callsOf; rw [HCL.out] at HCA; clear h; unfold errR; (try unfold errV))
              | (go_at_call 26; refine HAS.out.mono ?_; rintro e w6 ⟨rfl, rfl⟩)
              | (go_at_call 32; refine HCA.out.mono ?_; rintro e w6 ⟨rfl, rfl⟩)
              | fail)
            refine ⟨⟨x + (u + 1), y + (u + 1), j + 1, _, S5, D5, by omega, by (simp <;> omega), by simp, by simp, by omega, by omega, HAT.out, ?_⟩, by simp [intOf]; omega⟩
            have h9 := H5.out.mono (m := 8 * (j + 1)) (by omega)
            have e9 : (y : Int) + ((u + 1 : Nat) : Int) = ((y + (u + 1) : Nat) : Int) := by push_cast; omega
            rw [e9] at h9; exact h9
          · have hqu : q < u + 1 := by omega
            by_cases hlen : x + q < n
            · obtain ⟨b0, o0, hA, hcw⟩ := HZ.out.get (x + q) (by have := HN.out; omega)
              have hcell : wr.cell? ⟨b0, o0 + (x + q), none⟩ = some (.int .i64 (zs.getD (x + q) 0)) := (H5.out.st.below.cell (p := ⟨b0, o0 + (x + q), none⟩) (World.block_lt_of_cell? _ _ hcw)).trans hcw
              have hdrop : (zs.drop (x + q)).headD 0 = zs.getD (x + q) 0 := by simp [List.head?_drop, List.getD]
              obtain ⟨r, hr⟩ : ∃ r, u + 1 - q = r + 1 := ⟨u - q, by omega⟩
              have hst := St.lead_step r (zs.drop (x + q))
              rw [hdrop, List.drop_drop, ← hr] at hst
              have HST := hide hst
              have HRR := hide hr
              have HA9 := hide hA
              clear hst hr hdrop hcw
              subst hA
              generalize hz : zs.getD (x + q) 0 = z at *
              by_cases hz1 : z = 1
              · subst hz1
                have hnx : St.lead (u + 1) (zs.drop x) = (q + 1) + St.lead (u + 1 - (q + 1)) (zs.drop (x + (q + 1))) := by
                  rw [HLD.out, HST.out, if_pos (.inl rfl), show u + 1 - (q + 1) = r from by have := HRR.out; omega, Nat.add_assoc x q 1]; omega
                have HNX := hide hnx
                clear hnx hz
                go_wp2_with fail
                refine ⟨⟨q + 1, by simp, by (push_cast; omega), by omega, HNX.out⟩, ?_⟩; (try simp [intOf]); omega
              · by_cases hz2 : z = 2
                · subst hz2
                  have hnx : St.lead (u + 1) (zs.drop x) = (q + 1) + St.lead (u + 1 - (q + 1)) (zs.drop (x + (q + 1))) := by
                    rw [HLD.out, HST.out, if_pos (.inr rfl), show u + 1 - (q + 1) = r from by have := HRR.out; omega, Nat.add_assoc x q 1]; omega
                  have HNX := hide hnx
                  clear hnx hz hz1
                  go_wp2_with fail
                  refine ⟨⟨q + 1, by simp, by (push_cast; omega), by omega, HNX.out⟩, ?_⟩; (try simp [intOf]); omega
                · have hlead : St.lead (u + 1) (zs.drop x) = q := by rw [HLD.out, HST.out, if_neg (by simp [St.BadO, hz1, hz2])]; omega
                  have b1 : (z == 1) = false := by simpa using hz1
                  have b2 : (z == 2) = false := by simpa using hz2
                  clear hz1 hz2 hz
                  have hne : ¬ St.lead (u + 1) (zs.drop x) = u + 1 := by rw [hlead]; omega
                  have hr : (St.cput (u + 1) [120] [] s4).r = none := by rw [HPL.out.2.2, if_neg hne]
                  have hk : (St.cput (u + 1) [120] [] s4).k = q + 1 := by rw [HPL.out.1, if_neg hne, hlead]
                  have e1 : (y : Int) + ((q + 1 : Nat) : Int) = (y : Int) + ((q : Int) + 1) := by push_cast; omega
                  have hat := HPL.out.2.1
                  rw [hk] at hat
                  have hcl : (St.cput (u + 1) [120] [] s4).st.calls = (y : Int) + ((q : Int) + 1) := by rw [hat.calls]; push_cast; omega
                  have HAT := hide hat
                  have HR := hide hr
                  have HK := hide hk
                  have HE1 := hide e1
                  have HCL := hide hcl
                  clear hat hr hk e1 hcl hlead hne
                  have hqb : ((q : Int) == (u : Int) + 1) = false := by simp; omega
                  go_wp2_with (first
                    | (go_at_call 25; refine HPUT.out.mono ?_; rintro e w5 ⟨rfl, S5, D5, h, -⟩; rw [HK.out] at h; rw [HR.out]; have H5 := hide h; rw [HE1.out] at h; have HAS := hide h.askedOf; have HCA := hide h.st.callsOf; rw [HCL.out] at HCA; clear h; unfold errR; (try unfold errV))
                    | (go_at_call 26; refine HAS.out.mono ?_; rintro e w6 ⟨rfl, rfl⟩)
                    | (go_at_call 32; refine HCA.out.mono ?_; rintro e w6 ⟨rfl, rfl⟩)
                    | fail)
                  refine ⟨⟨x + (q + 1), y + (q + 1), j + 1, _, S5, D5, by omega, by (simp <;> omega), by simp, by simp, by omega, by omega, HAT.out, ?_⟩, by simp [intOf]; omega⟩
                  have h9 := H5.out.mono (m := 8 * (j + 1)) (by omega)
                  have e9 : (y : Int) + ((q + 1 : Nat) : Int) = ((y + (q + 1) : Nat) : Int) := by push_cast; omega
                  rw [e9] at h9; exact h9
            · have hlead : St.lead (u + 1) (zs.drop x) = q := by
                rw [HLD.out, List.drop_eq_nil_of_le (by have := HN.out; omega)]
                cases (u + 1 - q) <;> simp [St.lead]
              have hne : ¬ St.lead (u + 1) (zs.drop x) = u + 1 := by rw [hlead]; omega
              have hr : (St.cput (u + 1) [120] [] s4).r = none := by rw [HPL.out.2.2, if_neg hne]
              have hk : (St.cput (u + 1) [120] [] s4).k = q + 1 := by rw [HPL.out.1, if_neg hne, hlead]
              have e1 : (y : Int) + ((q + 1 : Nat) : Int) = (y : Int) + ((q : Int) + 1) := by push_cast; omega
              have hat := HPL.out.2.1
              rw [hk] at hat
              have hcl : (St.cput (u + 1) [120] [] s4).st.calls = (y : Int) + ((q : Int) + 1) := by rw [hat.calls]; push_cast; omega
              have HAT := hide hat
              have HR := hide hr
              have HK := hide hk
              have HE1 := hide e1
              have HCL := hide hcl
              clear hat hr hk e1 hcl hlead hne
              have hqb : ((q : Int) == (u : Int) + 1) = false := by simp; omega
              go_wp2_with (first
                | (go_at_call 25; refine HPUT.out.mono ?_; rintro e w5 ⟨rfl, S5, D5, h, -⟩; rw [HK.out] at h; rw [HR.out]; have H5 := hide h; rw [HE1.out] at h; have HAS := hide h.askedOf; have HCA := hide h.st.callsOf; rw [HCL.out] at HCA; clear h; unfold errR; (try unfold errV))
                | (go_at_call 26; refine HAS.out.mono ?_; rintro e w6 ⟨rfl, rfl⟩)
                | (go_at_call 32; refine HCA.out.mono ?_; rintro e w6 ⟨rfl, rfl⟩)
                | fail)
              refine ⟨⟨x + (q + 1), y + (q + 1), j + 1, _, S5, D5, by omega, by (simp <;> omega), by simp, by simp, by omega, by omega, HAT.out, ?_⟩, by simp [intOf]; omega⟩
              have h9 := H5.out.mono (m := 8 * (j + 1)) (by omega)
              have e9 : (y : Int) + ((q + 1 : Nat) : Int) = ((y + (q + 1) : Nat) : Int) := by push_cast; omega
              rw [e9] at h9; exact h9
      · obtain rfl : j = 25 := by omega
        go_wp2_with fail
        go_ret
        exact ⟨rfl, H5.out.st.below⟩
  · go_enter Tryd.func6, Tryd.ntmps6
    go_wp2_with (first
      | (go_at_call 22; refine HF.out.mono ?_; rintro e w1 ⟨rfl, hb⟩; have HB1 := hide hb; clear hb)
      | (go_at_call 23; refine (num_at n0 8 8 w1 (by omega) (by omega) (by omega) h01 h02).mono ?_; rintro e w1' ⟨rfl, rfl⟩; rw [HU.out])
      | fail)
    go_ret
    exact ⟨rfl, HB1.out⟩
end Go.Proofs.YthlclknbehfloaaDoor

namespace Go.Proofs.YthlclknbehfloaaDoor.CallCountsLaw
open Go.Proofs.YthlclknbehfloaaDoor
open Go.RowKit Go.ChangeShapes Go.WideShapes Go.ChangeAt

set_option maxRecDepth 100000 in
theorem lifted (os : Os) (started : os.Started) (H : Type) (enc : TypeId × Value → H) :
    ReturnsInHanded {} Tryd.checked os 6 .any (fun w args => (Rows.callCountsSpec.pre enc Tryd.prog Tryd.f6 [] false w args ∧ laidMetH Tryd.prog laidC3 w) ∧ sizedMet enc Tryd.prog Tryd.f6 (OpenSpec.ofChange Rows.callCountsSpec) false w args)
      (Rows.callCountsSpec.post enc Tryd.prog Tryd.f6 false true false false) := by
  refine returnsInHanded_of_change_and (C := Tryd.checked) (X := fun w _ => laidMetH Tryd.prog laidC3 w) (fun _ _ _ hh h => h.of_heap hh) own started (by kernel_rfl) Tryd.func6
    (ChangeSpec.witness_shaped (enc := enc) (C := Tryd.checked) (os := os) (X := fun w _ => laidMetH Tryd.prog laidC3 w) false (World.doorLaid Tryd.prog 400 os) #[.int .i64 0, .slice none 0 0] 8 rfl (World.shaped_of_RefB (by kernel_rfl) (by kernel_rfl)) (by kernel_rfl) (by kernel_rfl) (by kernel_rfl) (door_met_c3 os _)) ?_
  intro W base args ds gs before hval0 hW _ _ hL _
  have hval : ∀ (j : Nat) t v, Tryd.f6.params[j]? = some t → args[j]? = some v → Value.okWide Tryd.prog W .any base t v := hval0
  have hW' := hW
  obtain ⟨p, q, hA0, hV, rfl, hfz, hnd⟩ := hW
  have hA : DataW.TrodAll enc Tryd.prog W 0 (fun _ => true) true Tryd.f6.params.toList args.toList ds p := hA0
  rw [Tryd.params6] at hA hval
  obtain ⟨v0, vs0, d0, ds0, p0, q0, hargs, rfl, rfl, h0, r0⟩ := trodAll_cons hA
  obtain ⟨v1, vs1, d1, ds1, p1, q1, rfl, rfl, rfl, h1, r1⟩ := trodAll_cons r0
  obtain ⟨rfl, rfl, rfl⟩ := trodAll_nil r1
  obtain rfl : args = #[v0, v1] := by cases args; simp_all
  obtain ⟨rfl, rfl⟩ := trodVars_none hV
  obtain ⟨a0, rfl, rfl, rfl, w0⟩ := open_int Tryd.underlying3 (hval 0 3 v0 rfl rfl) h0
  have hb0 := bounds_i64 w0
  obtain ⟨a1, len1, cap1, rfl⟩ := okWide_slice Tryd.underlying23 (hval 1 23 v1 rfl rfl)
  have k1 := h1
  have lt1 : ∀ x ∈ p1, x.block < W.heap.size := by obtain ⟨m, hm⟩ := k1; exact DataW.trod_lt m _ _ _ hm
  obtain ⟨zs1, rfl, le1, mx1, w1, z1⟩ := ints_of h1
  clear hA0 hval0
  obtain ⟨ps, hsent⟩ := sents_of_c3 hL
  refine (callCounts_walk (.inr (.inl rfl)) (.inr (.inr rfl)) W ps hsent a0 hb0.1 hb0.2 a1 cap1 _ zs1 (intsArg_of le1 mx1 w1 z1 (intsCap_of h1)) rfl).mono fun e W' ⟨he, bel⟩ => ?_
  subst he
  exact ⟨_, rfl, _, _, _, [], _, [], hW', trodAll_mk1 (shut_bool Tryd.underlying4 _), (trodAll_cons_mk (shut_int Tryd.underlying3 w0) (trodAll_cons_mk (Below.trod laidOut (by kernel_rfl) (of_decide_eq_true (by kernel_rfl)) k1 bel lt1) trodAll_mk0)), rfl, bel.frame _, fun h => by cases h⟩

theorem row : Rows.CallCountsSaid :=
  OpenClaim.holds_of_wide 6 Tryd.f6 rfl rfl rfl rfl rfl rfl rfl ⟨rfl, rfl, rfl, rfl, rfl⟩ rfl rfl rfl rfl rfl (by kernel_rfl) Tryd.func6 (by kernel_rfl)
    (of_decide_eq_true (by kernel_rfl)) (by unfold Func.isWrapper; first | (rw [if_pos (by decide +kernel)]; kernel_rfl) | (rw [if_neg (by decide +kernel)]; exact ⟨rfl, rfl⟩))
    (fun os started H enc _ => lifted os started H enc)

theorem proved : Rows.CallCountsCardSaid :=
  Claim7.holds_tied_plain_at .later [] _ true _ true
    row (fun _ h => by cases h) (by kernel_rfl) (fun _ h => by cases h) callCounts_row_tie rfl ⟨rfl, rfl⟩ (by kernel_rfl) rfl
    (fun f fn hf hfn => by
      obtain rfl : f = 6 := Option.some.inj ((show Tryd.prog.funcNamed "cordwood/cordwoodlaw12.CallCounts" = some 6 by kernel_rfl).symm.trans hf) |>.symm
      obtain rfl : fn = Tryd.f6 := (Option.some.inj (Tryd.func6.symm.trans hfn)).symm
      exact ⟨by kernel_rfl, fun j t ht => by
        rw [Tryd.params6] at ht
        have hm : t ∈ [3, 23] := by simpa using Array.mem_of_getElem? ht
        have hall : ([3, 23].all fun u => !Tryd.prog.wantsStandIn u) = true := by kernel_rfl
        exact (show Tryd.prog.wantsStandIn t = false by simpa using List.all_eq_true.1 hall t hm)⟩)
    (by kernel_rfl)
end Go.Proofs.YthlclknbehfloaaDoor.CallCountsLaw
