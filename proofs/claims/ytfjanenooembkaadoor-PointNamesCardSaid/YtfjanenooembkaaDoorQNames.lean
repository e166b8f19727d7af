/-
  PointNames walked.
  PointNames, proved: names that may not be are refused; of bytes that were spoilt it is told.
-/
import Derived.Test.YtfjanenooembkaaDoorQ8
import Derived.Test.YtfjanenooembkaaDoorQP2
import Derived.Test.YtfjanenooembkaaDoorQ1
import Derived.Test.YtfjanenooembkaaDoorQP1
import Derived.Test.YtfjanenooembkaaDoorQ8a
import Derived.ShutString
import Derived.ChangeMaps5
namespace Go.Proofs.YtfjanenooembkaaDoor
open Go.RowKit Go.Maps Go.Sort

theorem lists_none {l : List Dk.Nm} (h : Dk.Lists (fun _ => none) l) : l = [] := by
  cases l with
  | nil => rfl
  | cons a r => exact absurd rfl ((h.2 a).1 List.mem_cons_self)
theorem lists_one {f : Dk.Dir} {k : Dk.Nm} {l : List Dk.Nm} (hf : ∀ x, x = k ↔ f x ≠ none) (h : Dk.Lists f l) : l = [k] :=
  h.one ⟨List.pairwise_singleton _ _, fun x => by rw [List.mem_singleton]; exact hf x⟩
theorem xor_one (x : UInt8) : bits .xor .u8 (B x) 1 = B (x ^^^ 1) := by
  have h := x8 x 1
  exact h

set_option maxRecDepth 100000 in
set_option maxHeartbeats 4000000 in
theorem pointNames_any (w : World) (p : Nat → Addr) (hs : Sents w p) (ht : Tabs w) (nm : Dk.Nm) (Ab : Option Addr) (cb nb : Nat) (b : List UInt8) (at_ : Int) (hnm : nm.length ≤ 9223372036854775807) (hnb : b.length = nb) (hb : Arg w Ab cb b) (hat : -9223372036854775808 ≤ at_ ∧ at_ ≤ 9223372036854775807) :
    Calls Tryd.prog 5 #[encStr nm, .slice Ab nb cb, .int .i64 at_] w fun e w' => e = .returned (.bool true) ∧ Below w.heap.size w w' := by
  have HFI := hide (ptFirst_any w)
  have HS := hide hs
  have HT := hide ht
  have HW4 : Hid (4 ≤ w.heap.size) := hide ht.size
  have HB := hide hb
  have HNB := hide hnb
  have hsz : (⟨nm.toArray⟩ : ByteArray).size = nm.length := by simp [ByteArray.size]
  clear hs ht hb hnb
  by_cases ln : 100 < nm.length
  · go_enter Tryd.func5, Tryd.ntmps5
    go_wp2_with (first | (go_at_call 9; refine HFI.out.mono ?_; rintro e w1 ⟨rfl, hb1⟩; have HB1 := hide hb1; clear hb1) | fail)
    go_ret
    exact ⟨rfl, HB1.out⟩
  by_cases lb : 100 < nb
  · go_enter Tryd.func5, Tryd.ntmps5
    go_wp2_with (first | (go_at_call 9; refine HFI.out.mono ?_; rintro e w1 ⟨rfl, hb1⟩; have HB1 := hide hb1; clear hb1) | fail)
    go_ret
    exact ⟨rfl, HB1.out⟩
  have HNW := hide (fun W => new_sessS 1000 W W (Below.refl _ _) (by omega) (by omega))
  have cat : ∀ W : World, (Op.stringOp .add ⟨nm.toArray⟩ ⟨#[46, 110, 101, 119]⟩).run Tryd.prog W = .ok (encStr (nm ++ Dk.fresh)) W := fun W => run_string_add_lists W nm Dk.fresh (by omega) (by decide)
  have HV1 := hide (fun W => ptValid1_any nm W)
  have HV2 := hide (fun W => ptValid1_any (nm ++ Dk.fresh) W)
  have HNL : Hid (nm.length ≤ 100) := hide (by omega)
  by_cases hv : Dk.valid nm = true ∧ Dk.valid (nm ++ Dk.fresh) = true
  · rw [hv.1] at HV1
    rw [hv.2] at HV2
    have HVV := hide hv
    have HST := hide (fun i => Dk.point_names nm b hv.1 hv.2 (by have := HNB.out; omega) i)
    clear hv
    generalize hkk : nm ++ Dk.fresh = kf at *
    have hsl := Dk.sealed_len b
    rw [HNB.out] at hsl
    have HSL := hide hsl
    clear hsl
    go_enter Tryd.func5, Tryd.ntmps5
    go_wp2_with (first
      | (go_at_call 9; refine HFI.out.mono ?_; rintro e w1 ⟨rfl, hb1⟩; have HB1 := hide hb1; have HAB := hide (HB.out.below hb1 (Nat.le_refl _)); have HS1 : Hid (SentsP w1 p) := hide ((HS.out.below hb1).mono fun j hj => by omega); have HT1 := hide (HT.out.below hb1 (Nat.le_refl _)); have HW1 : Hid (4 ≤ w1.heap.size) := hide (Nat.le_trans HW4.out hb1.size); clear hb1)
      | (go_at_call 10; refine (HNW.out w1).mono ?_; rintro e w2 ⟨Bd, rfl, h2, -⟩; have H2 := hide h2; clear h2)
      | (go_at_call 11; refine (ptWrite_ok H2.out p HS1.out HT1.out HW1.out (by omega) nm (by omega) HVV.out.1 (by rw [hkk]; exact HVV.out.2) Ab cb nb b (HAB.out.below H2.out.below (Nat.le_refl _)) HNB.out (by omega) (H2.out.clear HAB.out)).mono ?_; rintro e w3 ⟨id1, -, rfl, h3⟩; obtain ⟨sA, e1, l1, k1, st1⟩ := HST.out id1; rw [e1] at h3 ⊢; obtain ⟨S3, h3, -⟩ := h3; have H3 := hide h3; have L1 := hide l1; have K1 := hide k1; have ST1 := hide st1; clear h3 e1 l1 k1 st1 H2; simp only [errR])
      | (go_at_call 19; (with_reducible refine (HV1.out _).mono ?_); rintro e wv ⟨rfl, hwv⟩; obtain rfl : w3 = wv := hwv.symm)
      | (go_at_call 19; (with_reducible refine (HV2.out _).mono ?_); rintro e wv ⟨rfl, hwv⟩; obtain rfl : w3 = wv := hwv.symm)
      | fail)
    refine (H3.out.list (by omega)).mono ?_
    rintro e w4 ⟨lv, l, rfl, hl, ho, hb4⟩
    obtain rfl := lists_one L1.out hl
    obtain ⟨Al, cl, rfl, hrl, -, hcl1, hcl2⟩ := ho.reads
    have HRL := hide hrl
    have H4 := hide (H3.out.grow hb4)
    have hkr : sA.readOf nm 0 ((nb : Int) + 4) = (none, Dk.sealed b) := by have h := K1.out.read; rw [HNB.out] at h; exact h
    have HKR := hide hkr
    clear hl ho hrl hb4 hkr H3 L1 K1
    go_wp2_with (first
      | (go_at_call 21; refine (sameTexts_any Al _ cl _ 1 1 [nm] [nm] _ rfl rfl (by omega) (by omega) (HRL.out.below (balloc (Below.refl _ _) _) (Nat.le_refl _)) (ReadsT.made w4 [nm] _ _ _ _ rfl rfl)).mono ?_; rintro e w5 ⟨rfl, q, hq⟩; rw [decide_eq_true rfl]; have H5 := hide (H4.out.grow (show Below w4.heap.size w4 w5 by rw [hq]; exact below_drewN (balloc (Below.refl _ _) _) q)); clear hq)
      | (go_at_call 22; refine (H5.out.read p HS1.out.d (by omega) nm (by omega) 0 ((nb : Int) + 4) (by omega)).mono ?_; rintro e w6 ⟨v6, rfl, ho6, hb6⟩; rw [HKR.out] at ho6 ⊢; have HO6 := hide ho6; obtain ⟨g6, c6, rfl, hg6, hg6s, ha6, hf6, hset6⟩ := ho6.open_ (by rw [HSL.out]; omega); rw [HSL.out]; have H6 := hide (H5.out.grow hb6); have HG6 := hide (show w5.heap.size ≤ g6 from hg6); have HA6 := hide ha6; clear ho6 hb6 hg6 hg6s ha6 hf6 hset6; simp only [errR])
      | fail)
    refine (refSeal_any Ab cb nb b w6 HNB.out (by omega) (HAB.out.below H6.out.below (Nat.le_refl _)).reads).mono ?_
    rintro e w7 ⟨v7, rfl, ho7, hb7⟩
    obtain ⟨A7, c7, rfl, ha7⟩ := own_n (n := nb + 4) (l := Dk.sealed b) ho7 HSL.out
    have HA7 := hide ha7
    have H7 := hide (H6.out.grow hb7)
    have HO7 := hide (HO6.out.below hb7 (Nat.le_refl _))
    have HA67 := hide (HA6.out.below hb7 (Nat.le_refl _))
    clear ho7 hb7 ha7 HO6 HA6 H6
    have hNl : num at_ (nb + 4) < nb + 4 := num_lt at_ (nb + 4) (by omega)
    obtain ⟨N, hN⟩ : ∃ N, num at_ (nb + 4) = N := ⟨_, rfl⟩
    rw [hN] at hNl
    have HNN := hide hN
    clear hN
    go_wp2_with (first
      | (go_at_call 13; refine (sameBytes_any _ A7 c6 c7 (nb + 4) (nb + 4) (Dk.sealed b) (Dk.sealed b) w7 HSL.out HSL.out (by omega) (by omega) HA67.out.reads HA7.out.reads).mono ?_; rintro e w8 ⟨he, q, hq⟩; rw [decide_eq_true (rfl : Dk.sealed b = Dk.sealed b)] at he; subst he; have hb8 : Below w7.heap.size w7 w8 := (by rw [hq]; exact below_drewN (Below.refl _ _) q); have H8 := hide (H7.out.grow hb8); have ho8 := HO7.out.below hb8 (Nat.le_refl _); rw [HSL.out] at ho8; obtain ⟨g8, c8, e8, hg8, hg8s, ha8, hf8, hset8⟩ := ho8.open_ (by rw [HSL.out]; omega); rw [HSL.out] at e8; injection e8 with e8a _ e8c; injection e8a with e8a; injection e8a with e8a; subst e8a; subst e8c; have hck := reads_cell ha8.reads N (by rw [HSL.out]; exact hNl); rw [Nat.zero_add] at hck; have hfk := hf8 N; have HSET := hide (hset8 N ((Dk.sealed b).getD N 0 ^^^ 1) (by rw [HSL.out]; exact hNl)); have HA8 := hide ha8; have HG8 := hide hg8; clear hq hb8 ho8 ha8 hf8 hset8 hg8)
      | (go_at_call 14; refine (num_at at_ _ (nb + 4) w8 (by omega) (by omega) (by omega) hat.1 hat.2).mono ?_; rintro e w8' ⟨rfl, rfl⟩; rw [HNN.out])
      | fail)
    have hx1 : bits .xor .u8 (B ((Dk.sealed b)[N]?.getD 0)) 1 = B ((Dk.sealed b).getD N 0 ^^^ 1) := xor_one _
    rw [hx1]
    obtain ⟨al, hal⟩ : ∃ al, al = (Dk.sealed b).set N ((Dk.sealed b).getD N 0 ^^^ 1) := ⟨_, rfl⟩
    have hall : al.length = nb + 4 := by rw [hal, List.length_set, HSL.out]
    have HNO : Hid (¬ Crc.opens al) := hide (by rw [hal]; exact not_opens_setD _ N 1 (by rw [HSL.out]; exact hNl) (by decide) (by rw [HSL.out]; omega) (opens_seal b))
    have HALL := hide hall
    have hg5 := HG6.out
    have hS3 : ¬ S3 g6 := fun hS => by have := (H5.out.lo g6 hS).2; omega
    have hbs := HB1.out.size
    have h15 := H5.out.below.size
    obtain ⟨w9, hw9⟩ : ∃ w9, w9 = w8.setCell ⟨g6, N, none⟩ (.int .u8 (B ((Dk.sealed b).getD N 0 ^^^ 1))) := ⟨_, rfl⟩
    have hz9 : w9.heap.size = w8.heap.size := by rw [hw9]; simp
    have H9 : Hid (SessS S3 w1 (0 + 6) Bd sA w9) := hide (by
      have h8 := H8.out
      rw [hw9]
      exact ⟨h8.disk.kept fun k hk _ => Below.heap_setCell _ _ _ _ (fun e => hS3 (by have e2 : k = g6 := e; rw [← e2]; exact hk)), fun k hk => by have := h8.lo k hk; simp; omega, h8.below.setCell (by show w1.heap.size ≤ g6; omega) _, h8.small⟩)
    have HA9 : Hid (Arg w9 (some ⟨g6, 0, none⟩) c6 al) := hide (by
      have h8 := HA8.out
      rw [hw9, hal]
      exact ⟨by rw [List.length_set]; exact h8.le, h8.max, h8.nil, HSET.out⟩)
    rw [← hw9]
    have HLT9 : Hid (g6 < w9.heap.size) := hide (by rw [hz9]; exact hg8s)
    have HNS := hide hS3
    obtain ⟨s1, e1, hst2⟩ := ST1.out
    obtain ⟨s2, e2, ⟨fi, hfi⟩, hle2, hrd2⟩ := hst2 al (by rw [HALL.out, HNB.out])
    rw [HNB.out] at hle2 hrd2
    have HE1 := hide e1
    have HE2 := hide e2
    have HFI2 := hide hfi
    have HLE2 := hide hle2
    have HRD2 := hide hrd2
    clear hx1 hal hall hg5 hS3 hw9 hz9 HSET HA8 H8 hck hfk hg8s hst2 e1 e2 hfi hle2 hrd2 ST1 H5 HG6 HG8 hNl HNN H7 HO7 HA7 HA67 HRL H4 HKR h15
    have hne := fun W => neq_nilD (p 1) W
    unfold errV at hne
    go_wp2_with (first
      | (go_at_call 24; refine (H9.out.cut p HS1.out.d (by omega) nm (by omega) 0).mono ?_; rintro e w10 ⟨rfl, h10, hc10⟩; rw [HE1.out] at h10 ⊢; have H10 := hide h10; have HA10 := hide (HA9.out.chg hc10 (fun x o e _ => by cases e; exact HNS.out)); have HX10 : Hid (¬ Up S3 w9 w10 g6) := hide (fun hu => by rcases hu with hu | hu; exact HNS.out hu; have := HLT9.out; omega); clear h10 hc10; simp only [errR])
      | (go_at_call 25; refine (H10.out.append p HS1.out.d (by omega) nm (by omega) (some ⟨g6, 0, none⟩) c6 (nb + 4) al HA10.out HALL.out (by omega) (fun x o e _ => by cases e; exact HX10.out)).mono ?_; rintro e w11 ⟨rfl, h11, -⟩; rw [HE2.out] at h11 ⊢; have H11 := hide h11; clear h11; simp only [errR])
      | (go_at_call 12; refine (ptRead_some H11.out p HS1.out HT1.out (by omega) nm (by omega) fi nb al HFI2.out HLE2.out HRD2.out HALL.out (by omega) false ⟨fun h => (by cases h), fun h => absurd h HNO.out⟩).mono ?_; rintro e w12 ⟨hb12, he⟩; simp only [Bool.false_eq_true, if_false] at he; subst he; have H12 := hide (H11.out.grow hb12); clear hb12; unfold errV)
      | (go_at_call 17; refine (is_sent w12 p (HS.out.below (HB1.out.trans (H12.out.below.mono HB1.out.size))) 1 (by decide) 102).mono ?_; rintro e w13 ⟨he, hb13⟩; rw [decide_eq_true (by decide)] at he; subst he; have H13 := hide (H12.out.grow hb13); clear hb13)
      | fail)
    go_ret
    exact ⟨rfl, HB1.out.trans (H13.out.below.mono HB1.out.size)⟩
  · have HPW : Hid (∀ id s, ptWrite s nm b id = (some 5, s)) := hide (fun id s => if_neg hv)
    have hne := fun W => neq_nilD (p 5) W
    unfold errV at hne
    by_cases hv1 : Dk.valid nm = true
    · have hv2 : Dk.valid (nm ++ Dk.fresh) = false := by cases h : Dk.valid (nm ++ Dk.fresh); rfl; exact absurd ⟨hv1, h⟩ hv
      rw [hv1] at HV1
      rw [hv2] at HV2
      clear hv hv1 hv2
      generalize hkk : nm ++ Dk.fresh = kf at *
      go_enter Tryd.func5, Tryd.ntmps5
      go_wp2_with (first
        | (go_at_call 9; refine HFI.out.mono ?_; rintro e w1 ⟨rfl, hb1⟩; have HB1 := hide hb1; have HAB := hide (HB.out.below hb1 (Nat.le_refl _)); have HS1 : Hid (SentsP w1 p) := hide ((HS.out.below hb1).mono fun j hj => by omega); have HT1 := hide (HT.out.below hb1 (Nat.le_refl _)); have HW1 : Hid (4 ≤ w1.heap.size) := hide (Nat.le_trans HW4.out hb1.size); clear hb1)
        | (go_at_call 10; refine (HNW.out w1).mono ?_; rintro e w2 ⟨Bd, rfl, h2, -⟩; have H2 := hide h2; clear h2)
        | (go_at_call 11; refine (ptWrite_any H2.out p HS1.out HT1.out HW1.out (by omega) nm (by omega) Ab cb nb b (HAB.out.below H2.out.below (Nat.le_refl _)) HNB.out (by omega) (H2.out.clear HAB.out)).mono ?_; rintro e w3 ⟨id1, -, rfl, h3⟩; rw [HPW.out] at h3 ⊢; obtain ⟨S3, h3, -⟩ := h3; have H3 := hide h3; clear h3 H2; simp only [errR]; unfold errV)
        | (go_at_call 19; (with_reducible refine (HV1.out _).mono ?_); rintro e wv ⟨rfl, hwv⟩; obtain rfl : w3 = wv := hwv.symm)
        | (go_at_call 19; (with_reducible refine (HV2.out _).mono ?_); rintro e wv ⟨rfl, hwv⟩; obtain rfl : w3 = wv := hwv.symm)
        | (go_at_call 17; refine (is_sent w3 p (HS.out.below (HB1.out.trans (H3.out.below.mono HB1.out.size))) 5 (by decide) 106).mono ?_; rintro e w4 ⟨he, hb4⟩; rw [decide_eq_true (by decide)] at he; subst he; have H4 := hide (H3.out.grow hb4); clear hb4)
        | (go_at_call 20; refine (H4.out.list (by omega)).mono ?_; rintro e w5 ⟨lv, l, rfl, hl, ho, hb5⟩; obtain rfl := lists_none hl; obtain ⟨Al, cl, rfl, -, -, hcl1, hcl2⟩ := ho.reads; have H5 := hide (H4.out.grow hb5); clear hl ho hb5)
        | fail)
      go_ret
      exact ⟨rfl, HB1.out.trans (H5.out.below.mono HB1.out.size)⟩
    · have hv1' : Dk.valid nm = false := by simpa using hv1
      rw [hv1'] at HV1
      clear hv hv1 hv1' HV2
      generalize hkk : nm ++ Dk.fresh = kf at *
      go_enter Tryd.func5, Tryd.ntmps5
      go_wp2_with (first
        | (go_at_call 9; refine HFI.out.mono ?_; rintro e w1 ⟨rfl, hb1⟩; have HB1 := hide hb1; have HAB := hide (HB.out.below hb1 (Nat.le_refl _)); have HS1 : Hid (SentsP w1 p) := hide ((HS.out.below hb1).mono fun j hj => by omega); have HT1 := hide (HT.out.below hb1 (Nat.le_refl _)); have HW1 : Hid (4 ≤ w1.heap.size) := hide (Nat.le_trans HW4.out hb1.size); clear hb1)
        | (go_at_call 10; refine (HNW.out w1).mono ?_; rintro e w2 ⟨Bd, rfl, h2, -⟩; have H2 := hide h2; clear h2)
        | (go_at_call 11; refine (ptWrite_any H2.out p HS1.out HT1.out HW1.out (by omega) nm (by omega) Ab cb nb b (HAB.out.below H2.out.below (Nat.le_refl _)) HNB.out (by omega) (H2.out.clear HAB.out)).mono ?_; rintro e w3 ⟨id1, -, rfl, h3⟩; rw [HPW.out] at h3 ⊢; obtain ⟨S3, h3, -⟩ := h3; have H3 := hide h3; clear h3 H2; simp only [errR]; unfold errV)
        | (go_at_call 19; (with_reducible refine (HV1.out _).mono ?_); rintro e wv ⟨rfl, hwv⟩; obtain rfl : w3 = wv := hwv.symm)
        | (go_at_call 19; (with_reducible refine (HV2.out _).mono ?_); rintro e wv ⟨rfl, hwv⟩; obtain rfl : w3 = wv := hwv.symm)
        | (go_at_call 17; refine (is_sent w3 p (HS.out.below (HB1.out.trans (H3.out.below.mono HB1.out.size))) 5 (by decide) 106).mono ?_; rintro e w4 ⟨he, hb4⟩; rw [decide_eq_true (by decide)] at he; subst he; have H4 := hide (H3.out.grow hb4); clear hb4)
        | (go_at_call 20; refine (H4.out.list (by omega)).mono ?_; rintro e w5 ⟨lv, l, rfl, hl, ho, hb5⟩; obtain rfl := lists_none hl; obtain ⟨Al, cl, rfl, -, -, hcl1, hcl2⟩ := ho.reads; have H5 := hide (H4.out.grow hb5); clear hl ho hb5)
        | fail)
      go_ret
      exact ⟨rfl, HB1.out.trans (H5.out.below.mono HB1.out.size)⟩
theorem pointNames_str (w : World) (p : Nat → Addr) (hs : Sents w p) (ht : Tabs w) (s : ByteArray) (Ab : Option Addr) (cb nb : Nat) (b : List UInt8) (at_ : Int) (hsm : s.size ≤ 9223372036854775807) (hnb : b.length = nb) (hb : Arg w Ab cb b) (hat : -9223372036854775808 ≤ at_ ∧ at_ ≤ 9223372036854775807) :
    Calls Tryd.prog 5 #[.string s, .slice Ab nb cb, .int .i64 at_] w fun e w' => e = .returned (.bool true) ∧ Below w.heap.size w w' := by
  have e : encStr s.data.toList = .string s := by cases s; simp [encStr]
  have h := pointNames_any w p hs ht s.data.toList Ab cb nb b at_ (by have e2 : s.data.toList.length = s.size := (by show s.data.toList.length = s.data.size; simp); omega) hnb hb hat
  rw [e] at h
  exact h
end Go.Proofs.YtfjanenooembkaaDoor

namespace Go.Proofs.YtfjanenooembkaaDoor.PNamesLaw
open Go.Proofs.YtfjanenooembkaaDoor
open Go.RowKit Go.ChangeShapes Go.WideShapes Go.ChangeAt Go.ChangeMaps

set_option maxRecDepth 100000 in
theorem lifted (os : Os) (started : os.Started) (H : Type) (enc : TypeId × Value → H) :
    ReturnsInHanded {} Tryd.checked os 5 .any (fun w args => (Rows.pointNamesSpec.pre enc Tryd.prog Tryd.f5 [] false w args ∧ laidMetH Tryd.prog laidAll w) ∧ sizedMet enc Tryd.prog Tryd.f5 (OpenSpec.ofChange Rows.pointNamesSpec) false w args)
      (Rows.pointNamesSpec.post enc Tryd.prog Tryd.f5 false true false false) := by
  refine returnsInHanded_of_change_and (C := Tryd.checked) (X := fun w _ => laidMetH Tryd.prog laidAll w) (fun _ _ _ hh h => h.of_heap hh) own started (by kernel_rfl) Tryd.func5
    (ChangeSpec.witness_shaped (enc := enc) (C := Tryd.checked) (os := os) (X := fun w _ => laidMetH Tryd.prog laidAll w) false (World.doorLaid Tryd.prog 400 os) #[.string ⟨#[]⟩, .slice none 0 0, .int .i64 0] 8 rfl (World.shaped_of_RefB (by kernel_rfl) (by kernel_rfl)) (by kernel_rfl) (by kernel_rfl) (by kernel_rfl) (door_met_all os _)) ?_
  intro W base args ds gs before hval0 hW _ _ hL _
  have hval : ∀ (j : Nat) t v, Tryd.f5.params[j]? = some t → args[j]? = some v → Value.okWide Tryd.prog W .any base t v := hval0
  have hW' := hW
  obtain ⟨p, q, hA0, hV, rfl, hfz, hnd⟩ := hW
  have hA : DataW.TrodAll enc Tryd.prog W 0 (fun _ => true) true Tryd.f5.params.toList args.toList ds p := hA0
  rw [Tryd.params5] at hA hval
  obtain ⟨v0, vs0, d0, ds0, p0, q0, hargs, rfl, rfl, h0, r0⟩ := trodAll_cons hA
  obtain ⟨v1, vs1, d1, ds1, p1, q1, rfl, rfl, rfl, h1, r1⟩ := trodAll_cons r0
  obtain ⟨v2, vs2, d2, ds2, p2, q2, rfl, rfl, rfl, h2, r2⟩ := trodAll_cons r1
  obtain ⟨rfl, rfl, rfl⟩ := trodAll_nil r2
  obtain rfl : args = #[v0, v1, v2] := by cases args; simp_all
  obtain ⟨rfl, rfl⟩ := trodVars_none hV
  obtain ⟨s0, rfl, rfl, rfl, w0⟩ := open_string Tryd.underlying9 (hval 0 9 v0 rfl rfl) h0
  obtain ⟨a1, len1, cap1, rfl⟩ := okWide_slice Tryd.underlying22 (hval 1 22 v1 rfl rfl)
  have k1 := h1
  have lt1 : ∀ x ∈ p1, x.block < W.heap.size := by obtain ⟨m, hm⟩ := k1; exact DataW.trod_lt m _ _ _ hm
  obtain ⟨l1, rfl, w1⟩ := arg_of h1
  obtain ⟨a2, rfl, rfl, rfl, w2⟩ := open_int Tryd.underlying3 (hval 2 3 v2 rfl rfl) h2
  have hb2 := bounds_i64 w2
  clear hA0 hval0
  have htab := tabs_of_all hL
  obtain ⟨ps, hsent⟩ := sents_of_laid hL
  have hsz := htab.size
  refine (pointNames_str W ps hsent htab s0 a1 cap1 _ l1 a2 (by unfold maxLen at w0; omega) rfl w1 hb2).mono fun e W' ⟨he, bel⟩ => ?_
  subst he
  exact ⟨_, rfl, _, _, _, [], _, [], hW', trodAll_mk1 (shut_bool Tryd.underlying4 _), (trodAll_cons_mk (shut_string Tryd.underlying9 w0) (trodAll_cons_mk (Below.trod laidOut (by kernel_rfl) (of_decide_eq_true (by kernel_rfl)) k1 bel lt1) (trodAll_cons_mk (shut_int Tryd.underlying3 w2) trodAll_mk0))), rfl, bel.frame _, fun h => by cases h⟩

theorem row : Rows.PointNamesSaid :=
  OpenClaim.holds_of_wide 5 Tryd.f5 rfl rfl rfl rfl rfl rfl rfl ⟨rfl, rfl, rfl, rfl, rfl⟩ rfl rfl rfl rfl rfl (by kernel_rfl) Tryd.func5 (by kernel_rfl)
    (of_decide_eq_true (by kernel_rfl)) (by unfold Func.isWrapper; first | (rw [if_pos (by decide +kernel)]; kernel_rfl) | (rw [if_neg (by decide +kernel)]; exact ⟨rfl, rfl⟩))
    (fun os started H enc _ => lifted os started H enc)

theorem proved : Rows.PointNamesCardSaid :=
  Claim7.holds_tied_plain_at .later [] _ true _ true
    row (fun _ h => by cases h) (by kernel_rfl) (fun _ h => by cases h) pointNames_row_tie rfl ⟨rfl, rfl⟩ (by kernel_rfl) rfl
    (fun f fn hf hfn => by
      obtain rfl : f = 5 := Option.some.inj ((show Tryd.prog.funcNamed "cordwood/cordwoodlaw8.PointNames" = some 5 by kernel_rfl).symm.trans hf) |>.symm
      obtain rfl : fn = Tryd.f5 := (Option.some.inj (Tryd.func5.symm.trans hfn)).symm
      exact ⟨by kernel_rfl, fun j t ht => by
        rw [Tryd.params5] at ht
        have hm : t ∈ [9, 22, 3] := by simpa using Array.mem_of_getElem? ht
        have hall : ([9, 22, 3].all fun u => !Tryd.prog.wantsStandIn u) = true := by kernel_rfl
        exact (show Tryd.prog.wantsStandIn t = false by simpa using List.all_eq_true.1 hall t hm)⟩)
    (by kernel_rfl)
end Go.Proofs.YtfjanenooembkaaDoor.PNamesLaw
