/-
  IndexTimes, walked.
-/
import Derived.Test.YteeadlefbehhfaaDoorIxW
import Derived.Test.YteeadlefbehhfaaDoorIxR
import Derived.Test.YteeadlefbehhfaaDoorArgsI
namespace Go.Proofs.YteeadlefbehhfaaDoor
open Go.RowKit

theorem mk_row2 {w : World} {base : Nat} {v : Value} {l : List Ix.Mark} (h : w.ownsRow base 52 3 v l.length (l.flatMap mkCells)) :
    ∃ A c, v = .slice A l.length c ∧ ∀ k (hk : k < l.length), ∃ g, A = some ⟨g, 0, none⟩ ∧ l.length ≤ c ∧ w.cell? ⟨g, k * 3, none⟩ = some (.int .i64 l[k].off) ∧ w.cell? ⟨g, k * 3 + 1, none⟩ = some (.int .i64 l[k].time) ∧ w.cell? ⟨g, k * 3 + 2, none⟩ = some (.int .i64 l[k].pos) := by
  by_cases h0 : 0 < l.length
  · obtain ⟨g, c, e, hc, hk⟩ := mk_row h h0
    exact ⟨_, c, e, fun k hk' => ⟨g, rfl, hc, hk k hk'⟩⟩
  · rcases h.2 with ⟨e, e2⟩ | ⟨g, cap, cur, e, _⟩
    · exact ⟨none, 0, by rw [e, e2], fun k hk => by omega⟩
    · exact ⟨_, cap, e, fun k hk => by omega⟩

theorem ms_cells {w : World} {base : Nat} {v : Value} {f : Nat → Int} {k : Nat} (hv : w.ownsRow base 52 3 v (Ix.stT f k).marks.length ((Ix.stT f k).marks.flatMap mkCells)) :
    ∃ A c, v = .slice A k c ∧ ∀ j, j < k → ∃ g, A = some ⟨g, 0, none⟩ ∧ k ≤ c ∧ w.cell? ⟨g, j * 3 + 1, none⟩ = some (.int .i64 (Ix.hi f (j + 1))) := by
  obtain ⟨A, c, e, hcell⟩ := mk_row2 hv
  refine ⟨A, c, by rw [e, (Ix.len_stT f k).1], fun j hj => ?_⟩
  obtain ⟨g, e, hc, -, h2, -⟩ := hcell j (by rw [(Ix.len_stT f k).1]; exact hj)
  rw [Ix.mark_stT] at h2
  rw [(Ix.len_stT f k).1] at hc
  exact ⟨g, e, hc, h2⟩

def lf (zs : List Int) (k : Nat) : Int := zs.getD k 0 % 1000 - 500
theorem lf_ok (zs : List Int) (k : Nat) : Ix.okT (lf zs k) := by unfold lf Ix.okT; omega
theorem lf_le (zs : List Int) (k : Nat) : -500 ≤ lf zs k ∧ lf zs k ≤ 499 := by unfold lf; omega

set_option maxRecDepth 100000 in
set_option maxHeartbeats 4000000 in
theorem times_any (w : World) (p : Nat → Addr) (hs : Sents w p) (A : Option Addr) (cap n : Nat) (zs : List Int) (t0 : Int) (hn : zs.length = n) (hc : n ≤ cap) (hA : Ints w A zs) (hz : ∀ k, k < n → -9223372036854775808 ≤ zs.getD k 0 ∧ zs.getD k 0 ≤ 9223372036854775807) (ht : -9223372036854775808 ≤ t0 ∧ t0 ≤ 9223372036854775807) :
    Calls Tryd.prog 7 #[.slice A n cap, .int .i64 t0] w fun e w' => e = .returned (.bool true) ∧ Below w.heap.size w w' := by
  have hs4 : Sent4 w p := hs.mono fun j hj => by omega
  have HF := hide (firstI_any w p hs4)
  have HS4 := hide hs4
  have HS := hide hs
  by_cases h40 : 40 < n
  · have d0 : decide ((40 : Int) < n) = true := by simp; omega
    clear hA hz hn hc ht hs hs4
    go_enter Tryd.func7, Tryd.ntmps7
    go_wp2_with (first
      | (go_at_call 9; refine HF.out.mono ?_; rintro e w1 ⟨rfl, hb⟩; have HB1 := hide hb; clear hb)
      | fail)
    go_ret
    exact ⟨rfl, HB1.out⟩
  · have d0 : decide ((40 : Int) < n) = false := by simp; omega
    have hn40 : n ≤ 40 := by omega
    have hwt : IntKind.i64.wrap (t0 % 1000 - 500) = t0 % 1000 - 500 := by rw [IntKind.wrap_i64]; omega
    have HLT := hide (fun V => long_ix t0 1000 V (by omega) (by omega) ht.1 ht.2)
    have htb : -500 ≤ t0 % 1000 - 500 ∧ t0 % 1000 - 500 ≤ 499 := by omega
    obtain ⟨t, hT⟩ : ∃ t, t = t0 % 1000 - 500 := ⟨_, rfl⟩
    have HZ := hide hz
    have HN := hide hn
    have HA := hide hA
    clear hA hz hn ht hs hs4
    go_enter Tryd.func7, Tryd.ntmps7
    go_wp2_with (first
      | (go_at_call 9; refine HF.out.mono ?_; rintro e w1 ⟨rfl, hb⟩; have HNW := hide (new_ixS w 1 w1 hb (by omega)); clear hb)
      | (go_at_call 18; refine HNW.out.mono ?_; rintro e w2 ⟨rfl, hi⟩; have I2 := hide hi; clear hi HNW)
      | (go_at_call 23; refine (HLT.out _).mono ?_; rintro e w3 ⟨rfl, e⟩; subst e)
      | fail)
    rw [← hT] at htb ⊢
    clear hwt hT HLT
    obtain ⟨X, hX⟩ : ∃ X, X = w1.heap.size := ⟨_, rfl⟩
    rw [← hX] at I2 ⊢
    clear hX
    obtain ⟨f, hf⟩ : ∃ f, f = lf zs := ⟨_, rfl⟩
    have HFO : Hid (∀ k, Ix.okT (f k)) := hide (fun k => by rw [hf]; exact lf_ok zs k)
    have HFB : Hid (∀ k, -500 ≤ f k ∧ f k ≤ 499) := hide (fun k => by rw [hf]; exact lf_le zs k)
    have HFE : Hid (∀ k, zs.getD k 0 % 1000 - 500 = f k) := hide (fun k => by rw [hf]; rfl)
    clear hf
    go_loopw [8, 9, 10] (fun mx at_ i wr => ∃ k : Nat, k ≤ n ∧ i = .int .i64 k ∧ mx = .int .i64 (if k = 0 then 0 else Ix.hi f k) ∧ at_ = .int .i64 (Ix.atT f t k) ∧ IxS w X (Ix.stT f k) wr) (fun _ _ i _ => n - (intOf i).toNat)
    case atStart => exact ⟨0, Nat.zero_le _, rfl, rfl, rfl, I2.out⟩
    case round =>
      obtain ⟨k, hk, rfl, rfl, rfl, hi⟩ := hrel
      have I := hide hi
      clear hi
      by_cases hkn : k < n
      · obtain ⟨b, off, rfl, hbl, hcell⟩ : ∃ b off, A = some ⟨b, off, none⟩ ∧ b < w.heap.size ∧ w.cell? ⟨b, off + k, none⟩ = some (.int .i64 (zs.getD k 0)) := by
          rcases HA.out with e | ⟨b, off, e, hb, hc'⟩
          · have := HN.out; rw [e] at this; simp at this; omega
          · exact ⟨b, off, e, hb, hc' k (by rw [HN.out]; exact hkn)⟩
        have c0 := (I.out.bel.cell (p := ⟨b, off + k, none⟩) hbl).trans hcell
        have hyb := HZ.out k hkn
        have hwz := HFE.out k
        obtain ⟨y, hy⟩ : ∃ y, y = zs.getD k 0 := ⟨_, rfl⟩
        rw [← hy] at c0 hyb hwz
        have HL := hide (fun V => long_ix y 1000 V (by omega) (by omega) hyb.1 hyb.2)
        replace hwz : IntKind.i64.wrap (y % 1000 - 500) = f k := by rw [← hwz, IntKind.wrap_i64]; omega
        obtain ⟨r, hr⟩ : ∃ r, r = y % 1000 := ⟨_, rfl⟩
        rw [← hr] at HL hwz
        clear hr hy hyb
        have hw2 : IntKind.i64.wrap (2 * (k : Int)) = 2 * (k : Int) := by rw [IntKind.wrap_i64]; omega
        have hw10 : IntKind.i64.wrap (10 * (k : Int)) = 10 * (k : Int) := by rw [IntKind.wrap_i64]; omega
        have HAD := hide (I.out.add p HS4.out (2 * (k : Int)) (f k) (10 * (k : Int)) 10 (by rw [(Ix.len_stT f k).2]; omega) (by rw [(Ix.len_stT f k).1]; omega))
        rw [Ix.addT f k (by omega) (HFO.out k)] at HAD
        simp only [errR] at HAD
        have hb1 := HFB.out k
        have HAT : Hid (Ix.atT f t (k + 1) = if Ix.atT f t k < 0 ∧ t ≤ Ix.hi f (k + 1) then 2 * (k : Int) else Ix.atT f t k) := hide rfl
        have HHI : Hid (Ix.hi f (k + 1) = max (Ix.hi f k) (f k)) := hide rfl
        have HH1 : Hid (k = 0 → Ix.hi f (k + 1) = f k) := hide (fun e => by subst e; exact Ix.hi_one f (by have := (HFB.out 0).1; omega))
        clear hcell
        obtain ⟨z, hzz⟩ : ∃ z, z = f k := ⟨_, rfl⟩
        rw [← hzz] at hwz hb1 HAD HHI HH1
        obtain ⟨a, ha⟩ : ∃ a, a = Ix.atT f t k := ⟨_, rfl⟩
        rw [← ha] at HAT ⊢
        clear hzz ha
        by_cases hk0 : k = 0
        · rw [if_pos hk0]
          have HM : Hid (Ix.hi f (k + 1) = z) := hide (HH1.out hk0)
          have e0 : ((k : Int) == 0) = true := by rw [hk0]; rfl
          clear hk0
          by_cases ha0 : a < 0
          · by_cases hta : t ≤ z
            · have dt : decide (t ≤ z) = true := decide_eq_true hta
              have da : decide (a < 0) = true := decide_eq_true ha0
              go_wp2_with (first
                | (go_at_call 23; refine (HL.out _).mono ?_; rintro e w3 ⟨rfl, e⟩; subst e)
                | (go_at_call 19; refine HAD.out.mono ?_; rintro e w7 ⟨rfl, h7⟩; have I7 := hide h7; clear h7)
                | fail)
              go_roundw
              case rel => exact ⟨k + 1, by omega, by go_num, by rw [if_neg (Nat.succ_ne_zero k), HM.out], by rw [HAT.out, if_pos ⟨ha0, by rw [HM.out]; exact hta⟩], I7.out⟩
              case measure => simp [intOf]; omega
            · have dt : decide (t ≤ z) = false := decide_eq_false hta
              have da : decide (a < 0) = true := decide_eq_true ha0
              go_wp2_with (first
                | (go_at_call 23; refine (HL.out _).mono ?_; rintro e w3 ⟨rfl, e⟩; subst e)
                | (go_at_call 19; refine HAD.out.mono ?_; rintro e w7 ⟨rfl, h7⟩; have I7 := hide h7; clear h7)
                | fail)
              go_roundw
              case rel => exact ⟨k + 1, by omega, by go_num, by rw [if_neg (Nat.succ_ne_zero k), HM.out], by rw [HAT.out, if_neg (fun h => by have := h.2; rw [HM.out] at this; omega)], I7.out⟩
              case measure => simp [intOf]; omega
          · have da : decide (a < 0) = false := decide_eq_false ha0
            go_wp2_with (first
              | (go_at_call 23; refine (HL.out _).mono ?_; rintro e w3 ⟨rfl, e⟩; subst e)
              | (go_at_call 19; refine HAD.out.mono ?_; rintro e w7 ⟨rfl, h7⟩; have I7 := hide h7; clear h7)
              | fail)
            go_roundw
            case rel => exact ⟨k + 1, by omega, by go_num, by rw [if_neg (Nat.succ_ne_zero k), HM.out], by rw [HAT.out, if_neg (fun h => by have := h.1; omega)], I7.out⟩
            case measure => simp [intOf]; omega
        · rw [if_neg hk0]
          have e0 : ((k : Int) == 0) = false := by rw [beq_eq_false_iff_ne]; omega
          obtain ⟨m, hm⟩ : ∃ m, m = Ix.hi f k := ⟨_, rfl⟩
          rw [← hm] at HHI ⊢
          clear hm
          by_cases hzm : m < z
          · have HM : Hid (Ix.hi f (k + 1) = z) := hide (by rw [HHI.out]; omega)
            have dz : decide (m < z) = true := decide_eq_true hzm
            by_cases ha0 : a < 0
            · by_cases hta : t ≤ z
              · have dt : decide (t ≤ z) = true := decide_eq_true hta
                have da : decide (a < 0) = true := decide_eq_true ha0
                go_wp2_with (first
                  | (go_at_call 23; refine (HL.out _).mono ?_; rintro e w3 ⟨rfl, e⟩; subst e)
                  | (go_at_call 19; refine HAD.out.mono ?_; rintro e w7 ⟨rfl, h7⟩; have I7 := hide h7; clear h7)
                  | fail)
                go_roundw
                case rel => exact ⟨k + 1, by omega, by go_num, by rw [if_neg (Nat.succ_ne_zero k), HM.out], by rw [HAT.out, if_pos ⟨ha0, by rw [HM.out]; exact hta⟩], I7.out⟩
                case measure => simp [intOf]; omega
              · have dt : decide (t ≤ z) = false := decide_eq_false hta
                have da : decide (a < 0) = true := decide_eq_true ha0
                go_wp2_with (first
                  | (go_at_call 23; refine (HL.out _).mono ?_; rintro e w3 ⟨rfl, e⟩; subst e)
                  | (go_at_call 19; refine HAD.out.mono ?_; rintro e w7 ⟨rfl, h7⟩; have I7 := hide h7; clear h7)
                  | fail)
                go_roundw
                case rel => exact ⟨k + 1, by omega, by go_num, by rw [if_neg (Nat.succ_ne_zero k), HM.out], by rw [HAT.out, if_neg (fun h => by have := h.2; rw [HM.out] at this; omega)], I7.out⟩
                case measure => simp [intOf]; omega
            · have da : decide (a < 0) = false := decide_eq_false ha0
              go_wp2_with (first
                | (go_at_call 23; refine (HL.out _).mono ?_; rintro e w3 ⟨rfl, e⟩; subst e)
                | (go_at_call 19; refine HAD.out.mono ?_; rintro e w7 ⟨rfl, h7⟩; have I7 := hide h7; clear h7)
                | fail)
              go_roundw
              case rel => exact ⟨k + 1, by omega, by go_num, by rw [if_neg (Nat.succ_ne_zero k), HM.out], by rw [HAT.out, if_neg (fun h => by have := h.1; omega)], I7.out⟩
              case measure => simp [intOf]; omega
          · have HM : Hid (Ix.hi f (k + 1) = m) := hide (by rw [HHI.out]; omega)
            have dz : decide (m < z) = false := decide_eq_false hzm
            by_cases ha0 : a < 0
            · by_cases hta : t ≤ m
              · have dt : decide (t ≤ m) = true := decide_eq_true hta
                have da : decide (a < 0) = true := decide_eq_true ha0
                go_wp2_with (first
                  | (go_at_call 23; refine (HL.out _).mono ?_; rintro e w3 ⟨rfl, e⟩; subst e)
                  | (go_at_call 19; refine HAD.out.mono ?_; rintro e w7 ⟨rfl, h7⟩; have I7 := hide h7; clear h7)
                  | fail)
                go_roundw
                case rel => exact ⟨k + 1, by omega, by go_num, by rw [if_neg (Nat.succ_ne_zero k), HM.out], by rw [HAT.out, if_pos ⟨ha0, by rw [HM.out]; exact hta⟩], I7.out⟩
                case measure => simp [intOf]; omega
              · have dt : decide (t ≤ m) = false := decide_eq_false hta
                have da : decide (a < 0) = true := decide_eq_true ha0
                go_wp2_with (first
                  | (go_at_call 23; refine (HL.out _).mono ?_; rintro e w3 ⟨rfl, e⟩; subst e)
                  | (go_at_call 19; refine HAD.out.mono ?_; rintro e w7 ⟨rfl, h7⟩; have I7 := hide h7; clear h7)
                  | fail)
                go_roundw
                case rel => exact ⟨k + 1, by omega, by go_num, by rw [if_neg (Nat.succ_ne_zero k), HM.out], by rw [HAT.out, if_neg (fun h => by have := h.2; rw [HM.out] at this; omega)], I7.out⟩
                case measure => simp [intOf]; omega
            · have da : decide (a < 0) = false := decide_eq_false ha0
              go_wp2_with (first
                | (go_at_call 23; refine (HL.out _).mono ?_; rintro e w3 ⟨rfl, e⟩; subst e)
                | (go_at_call 19; refine HAD.out.mono ?_; rintro e w7 ⟨rfl, h7⟩; have I7 := hide h7; clear h7)
                | fail)
              go_roundw
              case rel => exact ⟨k + 1, by omega, by go_num, by rw [if_neg (Nat.succ_ne_zero k), HM.out], by rw [HAT.out, if_neg (fun h => by have := h.1; omega)], I7.out⟩
              case measure => simp [intOf]; omega
      · obtain rfl : k = n := by omega
        have HMK := hide (marks_any X _ _ _ (by rw [(Ix.len_stT f k).1]; omega) I.out.ix)
        obtain ⟨m8, h8⟩ : ∃ m8, m8 = (if k = 0 then (0 : Int) else Ix.hi f k) := ⟨_, rfl⟩
        rw [← h8]
        clear hkn h8
        go_upto_region 23 with (first
          | (go_at_call 14; refine HMK.out.mono ?_; rintro e w5 ⟨v, rfl, hv, hb⟩; have I5 := hide (I.out.below hb); obtain ⟨MA, MC, rfl, hce⟩ := ms_cells hv; have HCE := hide hce; clear hv hb hce)
          | fail)
        go_wp2_with fail
        go_loopw [13] (fun kv wq => ∃ j : Nat, 0 < j ∧ kv = .int .i64 j ∧ ∃ q, wq = w5.drewN q) (fun kv _ => k - (intOf kv).toNat)
        case atStart => exact ⟨1, by omega, rfl, 0, rfl⟩
        case round =>
          obtain ⟨j', hj0, rfl, q, hq⟩ := hrel
          obtain ⟨j, rfl⟩ : ∃ j, j' = j + 1 := ⟨j' - 1, by omega⟩
          clear hj0
          have HQ := hide hq
          have IQ : Hid (IxS w X (Ix.stT f k) wr) := hide (by rw [hq]; exact I5.out.drew q)
          by_cases hjk : j + 1 < k
          · obtain ⟨g, rfl, hc5, m0⟩ := HCE.out j (by omega)
            obtain ⟨g', eg, -, m1⟩ := HCE.out (j + 1) hjk
            obtain rfl : g' = g := by injection eg with eg; injection eg with eg; exact eg.symm
            replace m0 : wr.cell? ⟨g', j * 3 + 1, none⟩ = some (.int .i64 (Ix.hi f (j + 1))) := by rw [hq]; exact m0
            replace m1 : wr.cell? ⟨g', (j + 1) * 3 + 1, none⟩ = some (.int .i64 (Ix.hi f (j + 1 + 1))) := by rw [hq]; exact m1
            have hmo := Ix.hi_mono f (j + 1)
            obtain ⟨x0, hx0⟩ : ∃ x0, x0 = Ix.hi f (j + 1) := ⟨_, rfl⟩
            obtain ⟨x1, hx1⟩ : ∃ x1, x1 = Ix.hi f (j + 1 + 1) := ⟨_, rfl⟩
            rw [← hx0] at m0 hmo
            rw [← hx1] at m1 hmo
            have dx : decide (x1 < x0) = false := decide_eq_false (by omega)
            have hwj : IntKind.i64.wrap ((j : Int) + 1 - 1) = (j : Int) := by rw [IntKind.wrap_i64]; omega
            have hlt : decide (((j : Int) + 1) < k) = true := decide_eq_true (by omega)
            clear hx0 hx1 hmo hq
            go_wp2_with fail
            go_quiet (fail)
            rename Nat => q1
            go_wp2_with fail
            go_roundw
            case rel => exact ⟨j + 1 + 1, by omega, by go_num, by rw [HQ.out, World.drewN_drewN]; exact ⟨_, rfl⟩⟩
            case measure => simp [intOf]; omega
          · have hlt : decide (((j : Int) + 1) < k) = false := decide_eq_false (by omega)
            have hwh := when_any X _ _ t wr (by rw [(Ix.len_stT f k).1]; omega) IQ.out.ix
            rw [Ix.whenT] at hwh
            obtain ⟨a, ha⟩ : ∃ a, a = Ix.atT f t k := ⟨_, rfl⟩
            have hal := Ix.atT_le f t k
            rw [← ha] at hwh hal ⊢
            clear ha
            have HD := hide (fun (V : World) (h : IxS w X (Ix.stT f k) V) => (by
              have had := h.add p HS4.out (-1) 0 9999 1 (by rw [(Ix.len_stT f k).2]; omega) (by rw [(Ix.len_stT f k).1]; omega)
              rw [Ix.badT] at had
              exact had : Calls Tryd.prog 19 #[.pointer (some ⟨X, 0, none⟩), .int .i64 (-1), .int .i64 0, .int .i64 9999, .int .i64 1] V fun r w' => r = .returned (errV (p 4)) ∧ IxS w X (Ix.stT f k) w'))
            by_cases ha0 : a < 0
            · rw [if_pos ha0] at hwh
              have HWH := hide hwh
              have d1 : decide (0 ≤ a) = false := decide_eq_false (by omega)
              clear hwh hq
              go_wp2_with (first
                | (go_at_call 21; refine HWH.out.mono ?_; rintro e w6 ⟨rfl, hb⟩; have I6 := hide (IQ.out.below hb); clear hb)
                | (go_at_call 19; refine (HD.out _ I6.out).mono ?_; rintro e w7 ⟨rfl, h7⟩; have I7 := hide h7; have HIS := hide (is_sent w7 p (HS.out.below h7.bel) 4 (by omega) 105); clear h7)
                | (go_at_call 24; refine HIS.out.mono ?_; rintro e w8 ⟨rfl, hb⟩; have HB8 := hide hb; clear hb)
                | fail)
              go_ret
              exact ⟨by simp, I7.out.bel.trans (HB8.out.mono I7.out.bel.size)⟩
            · rw [if_neg ha0] at hwh
              have HWH := hide hwh
              have d1 : decide (0 ≤ a) = true := decide_eq_true (by omega)
              clear hwh hq
              go_wp2_with (first
                | (go_at_call 21; refine HWH.out.mono ?_; rintro e w6 ⟨rfl, hb⟩; have I6 := hide (IQ.out.below hb); clear hb)
                | (go_at_call 19; refine (HD.out _ I6.out).mono ?_; rintro e w7 ⟨rfl, h7⟩; have I7 := hide h7; have HIS := hide (is_sent w7 p (HS.out.below h7.bel) 4 (by omega) 105); clear h7)
                | (go_at_call 24; refine HIS.out.mono ?_; rintro e w8 ⟨rfl, hb⟩; have HB8 := hide hb; clear hb)
                | fail)
              go_ret
              exact ⟨by simp, I7.out.bel.trans (HB8.out.mono I7.out.bel.size)⟩
end Go.Proofs.YteeadlefbehhfaaDoor
