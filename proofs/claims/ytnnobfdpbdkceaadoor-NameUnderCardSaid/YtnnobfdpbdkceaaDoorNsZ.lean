/-
  NameUnder walked.
-/
import Derived.Test.YtnnobfdpbdkceaaDoorNsW
import Derived.Deep.DeepCutAuto
import Derived.Sort.Walk0
namespace Go.Proofs.YtnnobfdpbdkceaaDoor
open Go.RowKit Go.Sort Go.Shelf

theorem ReadsT.row {w : World} {A : Option Addr} {c : Nat} {xs : List (List UInt8)} (h : ReadsT w A xs) (hc : xs.length ≤ c) (hm : c ≤ 9223372036854775807) (hn : A = none → c = 0) : TxRow w A c xs :=
  ⟨hc, hm, hn, fun j hj => h.get j hj⟩
theorem str_cut (l : List UInt8) (m : Nat) : (⟨l.toArray⟩ : ByteArray).extract 0 m = ⟨(l.take m).toArray⟩ := by
  apply ByteArray.ext
  simp
theorem tdiv7 (z : Int) (hz : -9223372036854775808 ≤ z ∧ z ≤ 9223372036854775807) : -9223372036854775808 ≤ z.tdiv 7 ∧ z.tdiv 7 ≤ 9223372036854775807 := by
  by_cases h : 0 ≤ z
  · rw [Int.tdiv_eq_ediv_of_nonneg h]; omega
  · have e : z.tdiv 7 = -((-z).tdiv 7) := by rw [Int.neg_tdiv, Int.neg_neg]
    rw [e, Int.tdiv_eq_ediv_of_nonneg (by omega)]; omega
theorem pre_iff (x p : List UInt8) : Lib.hasPrefix x p = true ↔ p.length ≤ x.length ∧ x.take p.length = p := by
  unfold Lib.hasPrefix
  rw [List.isPrefixOf_iff_prefix, List.prefix_iff_eq_take]
  constructor
  · intro h
    refine ⟨?_, h.symm⟩
    have := congrArg List.length h
    rw [List.length_take] at this
    omega
  · exact fun h => h.2.symm

set_option maxRecDepth 100000 in
set_option maxHeartbeats 4000000 in
theorem under_walk (A : Option Addr) (c n : Nat) (xs : List (List UInt8)) (z : Int) (hz : -9223372036854775808 ≤ z ∧ z ≤ 9223372036854775807) (w : World) (ht : PowTab w) (hn : xs.length = n) (hr : ReadsT w A xs) (hc : n ≤ c) (hm : c ≤ 9223372036854775807) (hA : A = none → c = 0) :
    Calls Tryd.prog 3 #[.slice A n c, .int .i64 z] w fun e w' => e = .returned (.bool true) ∧ Below w.heap.size w w' := by
  have HF := Lib.hid (first_name w ht)
  have HR := Lib.hid hr
  have HN := Lib.hid hn
  clear ht hr hn
  by_cases hbig : 20 < n
  · go_enter Tryd.func3, Tryd.ntmps3
    go_wp2_with (go_at_call 5; refine HF.out.mono ?_; rintro e w1 ⟨rfl, hb1⟩; have B1 := Lib.hid hb1; clear hb1)
    go_ret
    exact ⟨rfl, B1.out⟩
  go_enter Tryd.func3, Tryd.ntmps3
  go_wp2_with (go_at_call 5; refine HF.out.mono ?_; rintro e w1 ⟨rfl, hb1⟩; have B1 := Lib.hid hb1; have HR1 := Lib.hid (HR.out.below hb1 (Nat.le_refl _)); clear hb1)
  clear HF
  go_loopw [6] (fun i wr => ∃ k : Nat, k ≤ n ∧ i = .int .i64 k ∧ wr = w1 ∧ ∀ t, t < k → (xs.getD t []).length ≤ 40) (fun i _ => n - (intOf i).toNat)
  case atStart => refine ⟨0, Nat.zero_le _, rfl, ?_⟩; simp
  case round =>
    obtain ⟨k, hk, rfl, hw, hle⟩ := hrel
    subst hw
    have HLE := Lib.hid hle
    clear hle
    by_cases hlt : k < n
    · obtain ⟨b, off, rfl, hcell⟩ := HR1.out.get k (by rw [HN.out]; exact hlt)
      obtain ⟨x, hx⟩ : ∃ x, x = xs.getD k [] := ⟨_, rfl⟩
      rw [← hx] at hcell
      have HX := Lib.hid hx
      have hsz : (⟨x.toArray⟩ : ByteArray).size = x.length := by show x.toArray.size = _; simp
      clear hx
      by_cases h40 : 40 < x.length
      · go_wp2_with fail
        go_ret
        exact ⟨rfl, B1.out⟩
      · go_wp2_with fail
        go_roundw
        case rel => exact ⟨k + 1, by omega, by go_num, by first | trivial | rfl, fun t ht => by
          by_cases e : t = k
          · subst e; rw [← HX.out]; omega
          · exact HLE.out t (by omega)⟩
        case measure => simp [intOf]; omega
    · obtain rfl : k = n := by omega
      have HS := Lib.hid (show ∀ x ∈ xs, x.length ≤ 40 from fun x hx => by
        obtain ⟨t, ht, rfl⟩ := List.mem_iff_getElem.1 hx
        have := HLE.out t (by rw [← HN.out]; exact ht)
        rwa [show xs.getD t [] = xs[t] from by simp [List.getD, ht]] at this)
      clear HLE
      go_upto_if 37 with fail
      go_cut [7, 8] from 35 (fun pv _ wc => ∃ p : List UInt8, pv = str p ∧ p.length ≤ 40 ∧ wc = wr)
      case first =>
        by_cases h0 : k = 0
        · subst h0
          go_wp2_with fail
          go_meet
          exact ⟨[], rfl, by simp, rfl⟩
        · have hj := num_lt z k (by omega)
          obtain ⟨j, hjj⟩ : ∃ j, num z k = j := ⟨_, rfl⟩
          rw [hjj] at hj
          obtain ⟨b, off, rfl, hcell⟩ := HR1.out.get j (by rw [HN.out]; exact hj)
          obtain ⟨s, hs⟩ : ∃ s, s = xs.getD j [] := ⟨_, rfl⟩
          rw [← hs] at hcell
          have hsl : s.length ≤ 40 := HS.out s (by
            rw [hs, show xs.getD j [] = xs[j]'(by rw [HN.out]; exact hj) from by simp [List.getD, show j < xs.length by rw [HN.out]; exact hj]]
            exact List.getElem_mem _)
          have HJJ := Lib.hid hjj
          have hm2 := num_lt (z.tdiv 7) (s.length + 1) (by omega)
          obtain ⟨m, hmm⟩ : ∃ m, num (z.tdiv 7) (s.length + 1) = m := ⟨_, rfl⟩
          rw [hmm] at hm2
          have HMM := Lib.hid hmm
          have hsz : (⟨s.toArray⟩ : ByteArray).size = s.length := by show s.toArray.size = _; simp
          have hq : -9223372036854775808 ≤ z.tdiv 7 ∧ z.tdiv 7 ≤ 9223372036854775807 := tdiv7 z hz
          have hcut := str_cut s m
          clear hs hjj hmm
          go_wp2_with (first
            | (go_at_call 6; (with_reducible refine (num_at z k k _ rfl (by omega) (by omega) hz.1 hz.2).mono ?_); rintro e wr' ⟨rfl, rfl⟩; rw [HJJ.out])
            | (go_at_call 6; (with_reducible refine (num_at (z.tdiv 7) ((s.length : Int) + 1) (s.length + 1) _ (by omega) (by omega) (by omega) hq.1 hq.2).mono ?_); rintro e wr' ⟨rfl, rfl⟩; rw [HMM.out])
            | fail)
          go_meet
          exact ⟨s.take m, rfl, by rw [List.length_take]; omega, rfl⟩
      case rest =>
        obtain ⟨p, rfl, hp, rfl⟩ := hcut
        have HUN := Lib.hid (under_any A c k xs p wc HN.out (by omega) HR1.out)
        obtain ⟨U, hU⟩ : ∃ U, U = Nm.rising (xs.filter fun x => Lib.hasPrefix x p) := ⟨_, rfl⟩
        rw [← hU] at HUN
        have HUP : Hid (U.Pairwise (· < ·)) := Lib.hid (by rw [hU]; exact Nm.rising_rises _)
        have HUM : Hid (∀ y, y ∈ U ↔ y ∈ xs ∧ (p.length ≤ y.length ∧ y.take p.length = p)) := Lib.hid (fun y => by rw [hU, Nm.mem_rising, List.mem_filter, pre_iff])
        have hul : U.length ≤ k := by
          rw [hU]
          exact Nat.le_trans (Nm.rising_len _) (Nat.le_trans (List.length_filter_le _ _) (by rw [HN.out]; exact Nat.le_refl _))
        clear hU
        have hsp : (⟨p.toArray⟩ : ByteArray).size = p.length := by show p.toArray.size = _; simp
        go_wp2_with (first
          | (go_at_call 7; refine HUN.out.mono ?_; rintro e w2 ⟨v, rfl, ho, hb2⟩; obtain ⟨Au, cu, rfl, hru, hun, hucle, hucm⟩ := ho.reads; have HRU := Lib.hid hru; have B2 := Lib.hid (B1.out.trans (hb2.mono B1.out.size)); have HR2 := Lib.hid (HR1.out.below hb2 (Nat.le_refl _)); clear hb2 ho hru)
          | fail)
        obtain ⟨m, hm'⟩ : ∃ m, m = U.length := ⟨_, rfl⟩
        rw [← hm']
        have HM := Lib.hid hm'
        rw [← hm'] at hucle hul
        have hcu0 : Au = none → cu = 0 := fun e => (hun e).2
        clear hm' hun HUN B1 HR1
        go_loopw [10] (fun i wr => ∃ (t q : Nat), t ≤ m ∧ i = .int .i64 t ∧ wr = w2.drewN q) (fun i _ => m - (intOf i).toNat)
        case atStart => refine ⟨0, 0, Nat.zero_le _, rfl, ?_⟩; rfl
        case round =>
          obtain ⟨t, q, htm, rfl, hq⟩ := hrel
          have HRUq : Hid (ReadsT wr Au U) := Lib.hid (by rw [hq]; exact HRU.out)
          have HR2q : Hid (ReadsT wr A xs) := Lib.hid (by rw [hq]; exact HR2.out)
          have HQ := Lib.hid hq
          clear hq
          by_cases hlt : t < m
          · obtain ⟨bu, ou, rfl, hcu⟩ := HRUq.out.get t (by rw [← HM.out]; exact hlt)
            obtain ⟨y, hy⟩ : ∃ y, y = U.getD t [] := ⟨_, rfl⟩
            rw [← hy] at hcu
            have hyU : y ∈ U := by
              rw [hy, show U.getD t [] = U[t]'(by rw [← HM.out]; exact hlt) from by simp [List.getD, show t < U.length by rw [← HM.out]; exact hlt]]
              exact List.getElem_mem _
            obtain ⟨hyx, hyl, hyp⟩ := (HUM.out y).1 hyU
            have hsy : (⟨y.toArray⟩ : ByteArray).size = y.length := by show y.toArray.size = _; simp
            have hcy := str_cut y p.length
            rw [hyp] at hcy
            have hyl2 : ¬ y.length < p.length := by omega
            have HIN : Hid (∀ W, ReadsT W A xs → Calls Tryd.prog 8 #[.slice A k c, str y] W fun e w' => e = .returned (.bool true) ∧ w' = W) := Lib.hid fun W hW => by
              have h := in_any A c k xs y W (hW.row (by rw [HN.out]; exact hc) hm hA) HN.out (by omega)
              rwa [decide_eq_true hyx] at h
            have HY := Lib.hid hy
            clear hy hyU hyx hyp
            have HB2q : Hid (∀ q', wr.drewN q' = w2.drewN (q + q')) := Lib.hid (fun q' => by rw [HQ.out, World.drewN_drewN])
            by_cases ht0 : t = 0
            · have hg0 : ¬ 0 < t := by omega
              have HT0 := Lib.hid ht0
              clear ht0
              go_wp2_with fail
              go_big_quiet (first | (go_at_call 8; exact Calls.quiet_of_same ((HIN.out _ (HR2q.out.drewN _)).mono fun _ _ ⟨h1, h2⟩ => ⟨h1, h2⟩)))
              go_wp2_with fail
              go_roundw
              case rel => exact ⟨t + 1, _, by omega, by go_num, HB2q.out _⟩
              case measure => simp [intOf]; omega
            · obtain ⟨t', rfl⟩ : ∃ t', t = t' + 1 := ⟨t - 1, by omega⟩
              have hg0 : 0 < t' + 1 := by omega
              clear ht0
              obtain ⟨bu', ou', eA, hcu'⟩ := HRUq.out.get t' (by rw [← HM.out]; omega)
              cases eA
              have hb1 : Op.bytesLess (U.getD t' []) y = true := by
                rw [Go.Proofs.bytesLess_eq]
                have h1 : t' < U.length := by rw [← HM.out]; omega
                have h2 : t' + 1 < U.length := by rw [← HM.out]; omega
                have h := List.pairwise_iff_getElem.1 HUP.out t' (t' + 1) h1 h2 (by omega)
                rw [HY.out, show U.getD t' [] = U[t'] from by simp [List.getD, h1], show U.getD (t' + 1) [] = U[t' + 1] from by simp [List.getD, h2]]
                exact decide_eq_true h
              generalize U.getD t' [] = y' at *
              go_wp2_with fail
              go_big_quiet (first | (go_at_call 8; exact Calls.quiet_of_same ((HIN.out _ (HR2q.out.drewN _)).mono fun _ _ ⟨h1, h2⟩ => ⟨h1, h2⟩)))
              go_wp2_with fail
              go_roundw
              case rel => exact ⟨t' + 1 + 1, _, by omega, by go_num, HB2q.out _⟩
              case measure => simp [intOf]; omega
          · go_wp2_with fail
            go_loopw [11] (fun i wr => ∃ (t q : Nat), t ≤ k ∧ i = .int .i64 t ∧ wr = w2.drewN q) (fun i _ => k - (intOf i).toNat)
            case atStart => exact ⟨0, q, Nat.zero_le _, rfl, HQ.out⟩
            case round =>
              obtain ⟨t, q, htm, rfl, hq⟩ := hrel
              have HRU2 : Hid (ReadsT wr Au U) := Lib.hid (by rw [hq]; exact HRU.out)
              have HR22 : Hid (ReadsT wr A xs) := Lib.hid (by rw [hq]; exact HR2.out)
              have HBW : Hid (Below w.heap.size w wr) := Lib.hid (by rw [hq]; exact below_drewN B2.out q)
              have HB2q : Hid (∀ q', wr.drewN q' = w2.drewN (q + q')) := Lib.hid (fun q' => by rw [hq, World.drewN_drewN])
              clear hq
              by_cases hlt : t < k
              · obtain ⟨bx, ox, rfl, hcx⟩ := HR22.out.get t (by rw [HN.out]; exact hlt)
                obtain ⟨x, hx⟩ : ∃ x, x = xs.getD t [] := ⟨_, rfl⟩
                rw [← hx] at hcx
                have hxX : x ∈ xs := by
                  rw [hx, show xs.getD t [] = xs[t]'(by rw [HN.out]; exact hlt) from by simp [List.getD, show t < xs.length by rw [HN.out]; exact hlt]]
                  exact List.getElem_mem _
                have hxu := HUM.out x
                have hsx : (⟨x.toArray⟩ : ByteArray).size = x.length := by show x.toArray.size = _; simp
                have hcy := str_cut x p.length
                have HIU : Hid (∀ W, ReadsT W Au U → Calls Tryd.prog 8 #[.slice Au m cu, str x] W fun e w' => e = .returned (.bool (decide (x ∈ U))) ∧ w' = W) := Lib.hid fun W hW =>
                  in_any Au cu m U x W (hW.row (by rw [← HM.out]; exact hucle) hucm hcu0) HM.out.symm (by omega)
                clear hx
                by_cases hxl : p.length ≤ x.length
                · have hge : ¬ x.length < p.length := by omega
                  by_cases hxp : x.take p.length = p
                  · have hin : x ∈ U := hxu.2 ⟨hxX, hxl, hxp⟩
                    rw [hxp] at hcy
                    have HIN : Hid (∀ W, ReadsT W Au U → Calls Tryd.prog 8 #[.slice Au m cu, str x] W fun e w' => e = .returned (.bool true) ∧ w' = W) := Lib.hid fun W hW => by
                      have h := HIU.out W hW
                      rwa [decide_eq_true hin] at h
                    clear hin hxp hxu hxX HIU
                    go_wp2_with fail
                    go_big_quiet (first | (go_at_call 8; exact Calls.quiet_of_same ((HIN.out _ (HRU2.out.drewN _)).mono fun _ _ ⟨h1, h2⟩ => ⟨h1, h2⟩)))
                    go_wp2_with fail
                    go_roundw
                    case rel => exact ⟨t + 1, _, by omega, by go_num, HB2q.out _⟩
                    case measure => simp [intOf]; omega
                  · have hin : x ∉ U := fun h => hxp (hxu.1 h).2.2
                    have hbe : (x.take p.length == p) = false := beq_eq_false_iff_ne.2 hxp
                    have HIN : Hid (∀ W, ReadsT W Au U → Calls Tryd.prog 8 #[.slice Au m cu, str x] W fun e w' => e = .returned (.bool false) ∧ w' = W) := Lib.hid fun W hW => by
                      have h := HIU.out W hW
                      rwa [decide_eq_false hin] at h
                    clear hin hxp hxu hxX HIU
                    go_wp2_with fail
                    go_big_quiet (first | (go_at_call 8; exact Calls.quiet_of_same ((HIN.out _ (HRU2.out.drewN _)).mono fun _ _ ⟨h1, h2⟩ => ⟨h1, h2⟩)))
                    go_wp2_with fail
                    go_roundw
                    case rel => exact ⟨t + 1, _, by omega, by go_num, HB2q.out _⟩
                    case measure => simp [intOf]; omega
                · have hge : x.length < p.length := by omega
                  have hin : x ∉ U := fun h => hxl (hxu.1 h).2.1
                  have HIN : Hid (∀ W, ReadsT W Au U → Calls Tryd.prog 8 #[.slice Au m cu, str x] W fun e w' => e = .returned (.bool false) ∧ w' = W) := Lib.hid fun W hW => by
                    have h := HIU.out W hW
                    rwa [decide_eq_false hin] at h
                  clear hin hxu hxX HIU
                  go_wp2_with fail
                  go_big_quiet (first | (go_at_call 8; exact Calls.quiet_of_same ((HIN.out _ (HRU2.out.drewN _)).mono fun _ _ ⟨h1, h2⟩ => ⟨h1, h2⟩)))
                  go_wp2_with fail
                  go_roundw
                  case rel => exact ⟨t + 1, _, by omega, by go_num, HB2q.out _⟩
                  case measure => simp [intOf]; omega
              · have hfl : (xs.filter fun x => Lib.hasPrefix x []) = xs := by simp [Lib.hasPrefix]
                have HU0 := Lib.hid (under_any A c k xs [] wr HN.out (by omega) HR22.out)
                rw [hfl] at HU0
                have hrl := Nm.rising_len xs
                have HXL := Lib.hid (fun x (hx : x ∈ xs) => show x.length ≤ 1000000 from Nat.le_trans (HS.out x hx) (by decide))
                clear hfl
                go_wp2_with (first
                  | (go_at_call 7; refine HU0.out.mono ?_; rintro e w5 ⟨v5, rfl, ho5, hb5⟩; obtain ⟨A5, c5, rfl, -⟩ := ho5.reads; have HR5 := Lib.hid (HR22.out.below hb5 (Nat.le_refl _)); have B5 := Lib.hid (HBW.out.trans (hb5.mono HBW.out.size)); clear hb5 ho5)
                  | (go_at_call 9; refine (rising_any A c k xs w5 HN.out (by omega) HXL.out HR5.out).mono ?_; rintro e w6 ⟨v6, rfl, ho6, hb6⟩; obtain ⟨A6, c6, rfl, -⟩ := ho6.reads; have B6 := Lib.hid (B5.out.trans (hb6.mono B5.out.size)); clear hb6 ho6)
                  | fail)
                go_ret
                exact ⟨rfl, B6.out⟩
end Go.Proofs.YtnnobfdpbdkceaaDoor
