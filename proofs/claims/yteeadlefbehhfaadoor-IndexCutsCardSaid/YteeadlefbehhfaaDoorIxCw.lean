/-
  IndexCuts, walked.
-/
import Derived.Test.YteeadlefbehhfaaDoorIxTw
import Derived.Test.YteeadlefbehhfaaDoorIxZ
import Derived.Deep.LoopGhost
namespace Go.Proofs.YteeadlefbehhfaaDoor
open Go.RowKit

def zc (zs : List Int) (k : Nat) : Int := zs.getD k 0 % 60 + 1
theorem zc_le (zs : List Int) (k : Nat) : 1 ≤ zc zs k ∧ zc zs k ≤ 90 := by unfold zc; omega
/-- Where the cut is to be, i batches seen. -/
def cutv (z : Nat → Int) (k i : Nat) : Int := if k < i then Ix.posF z k else 0
theorem cutv_le {z : Nat → Int} {k i : Nat} (h : i ≤ k) : cutv z k i = 0 := if_neg (by omega)
theorem cutv_gt {z : Nat → Int} {k i : Nat} (h : k < i) : cutv z k i = Ix.posF z k := if_pos h
theorem keep3 {w w' : World} {A : Option Addr} {j : Nat} {a b c : Int} (h : ∃ g, A = some ⟨g, 0, none⟩ ∧ g < w.heap.size ∧ w.cell? ⟨g, j * 3, none⟩ = some (.int .i64 a) ∧ w.cell? ⟨g, j * 3 + 1, none⟩ = some (.int .i64 b) ∧ w.cell? ⟨g, j * 3 + 2, none⟩ = some (.int .i64 c)) (hb : Below w.heap.size w w') :
    ∃ g, A = some ⟨g, 0, none⟩ ∧ g < w'.heap.size ∧ w'.cell? ⟨g, j * 3, none⟩ = some (.int .i64 a) ∧ w'.cell? ⟨g, j * 3 + 1, none⟩ = some (.int .i64 b) ∧ w'.cell? ⟨g, j * 3 + 2, none⟩ = some (.int .i64 c) := by
  obtain ⟨g, e, hg, h0, h1, h2⟩ := h
  exact ⟨g, e, Nat.lt_of_lt_of_le hg hb.size, (hb.cell (p := ⟨g, j * 3, none⟩) hg).trans h0, (hb.cell (p := ⟨g, j * 3 + 1, none⟩) hg).trans h1, (hb.cell (p := ⟨g, j * 3 + 2, none⟩) hg).trans h2⟩

set_option maxRecDepth 100000 in
set_option maxHeartbeats 4000000 in
theorem cuts_any6 (w : World) (p : Nat → Addr) (hs : Sent4 w p) (A : Option Addr) (cap n : Nat) (zs : List Int) (e0 c0 : Int) (hn : zs.length = n) (hc : n ≤ cap) (hA : Ints w A zs) (hz : ∀ k, k < n → -9223372036854775808 ≤ zs.getD k 0 ∧ zs.getD k 0 ≤ 9223372036854775807) (he : -9223372036854775808 ≤ e0 ∧ e0 ≤ 9223372036854775807) (hc0 : -9223372036854775808 ≤ c0 ∧ c0 ≤ 9223372036854775807) :
    Calls Tryd.prog 6 #[.int .i64 e0, .slice A n cap, .int .i64 c0] w fun e w' => e = .returned (.bool true) ∧ Below w.heap.size w w' := by
  have HF := hide (firstI_any w p hs)
  have HS := hide hs
  have HNE := hide (fun V => number_any e0 200 V (by omega) (by omega) he.1 he.2)
  have hwe : IntKind.i64.wrap (e0 % 200 + 1) = e0 % 200 + 1 := by rw [IntKind.wrap_i64]; omega
  by_cases h40 : 40 < n
  · have d0 : decide ((40 : Int) < n) = true := by simp; omega
    clear hA hz hn hc he hs hc0
    go_enter Tryd.func6, Tryd.ntmps6
    go_wp2_with (first
      | (go_at_call 9; refine HF.out.mono ?_; rintro e w1 ⟨rfl, hb⟩; have HB1 := hide hb; clear hb)
      | (go_at_call 17; refine (HNE.out _).mono ?_; rintro e w3 ⟨rfl, e⟩; subst e)
      | fail)
    go_ret
    exact ⟨rfl, HB1.out⟩
  · have d0 : decide ((40 : Int) < n) = false := by simp; omega
    have hn40 : n ≤ 40 := by omega
    obtain ⟨ev, hev⟩ : ∃ ev, ev = e0 % 200 + 1 := ⟨_, rfl⟩
    have heb : 1 ≤ ev ∧ ev ≤ 200 := by omega
    obtain ⟨r0, hr0⟩ : ∃ r0, r0 = e0 % 200 := ⟨_, rfl⟩
    rw [← hr0] at hwe HNE hev
    replace hwe : IntKind.i64.wrap (r0 + 1) = ev := by rw [hwe, hev]
    have HNC := hide (fun V => number_any c0 ((n : Int) + 1) V (by omega) (by omega) hc0.1 hc0.2)
    have hwn : IntKind.i64.wrap ((n : Int) + 1) = (n : Int) + 1 := by rw [IntKind.wrap_i64]; omega
    obtain ⟨k, hk⟩ : ∃ k : Nat, (k : Int) = c0 % ((n : Int) + 1) := ⟨(c0 % ((n : Int) + 1)).toNat, by have := Int.emod_nonneg c0 (show ((n : Int) + 1) ≠ 0 by omega); omega⟩
    have hkn : k ≤ n := by have := Int.emod_lt_of_pos c0 (show 0 < ((n : Int) + 1) by omega); omega
    rw [← hk] at HNC
    have HZ := hide hz
    have HN := hide hn
    have HA := hide hA
    obtain ⟨z, hzd⟩ : ∃ z, z = zc zs := ⟨_, rfl⟩
    have HZB : Hid (∀ k, 1 ≤ z k ∧ z k ≤ 90) := hide (fun k => by rw [hzd]; exact zc_le zs k)
    have HZE : Hid (∀ k, zs.getD k 0 % 60 + 1 = z k) := hide (fun k => by rw [hzd]; rfl)
    clear hA hz hn he hs hc0 hk hr0 hev hzd h40
    go_enter Tryd.func6, Tryd.ntmps6
    go_wp2_with (first
      | (go_at_call 9; refine HF.out.mono ?_; rintro e w1 ⟨rfl, hb⟩; have HNW := hide (new_ixO w ev w1 hb (by omega)); clear hb)
      | (go_at_call 18; have _t := I2; refine (new_two w w1.heap.size (Ix.new ev) _ ev w2 I2.out (by omega)).mono ?_; rintro e w4 ⟨rfl, hi⟩; have I4 := hide hi; clear hi I2)
      | (go_at_call 18; refine HNW.out.mono ?_; rintro e w2 ⟨rfl, hi, -⟩; have I2 := hide hi; clear hi HNW)
      | (go_at_call 17; have _t := I4; refine (HNC.out _).mono ?_; rintro e w5 ⟨rfl, e⟩; subst e)
      | (go_at_call 17; refine (HNE.out _).mono ?_; rintro e w3 ⟨rfl, e⟩; subst e)
      | fail)
    obtain ⟨X, hX⟩ : ∃ X, X = w1.heap.size := ⟨_, rfl⟩
    obtain ⟨Y, hY⟩ : ∃ Y, Y = w2.heap.size := ⟨_, rfl⟩
    rw [← hX, ← hY] at I4 ⊢
    clear hX hY
    go_loopw [13, 14, 15, 16] (fun ps cv iv _ wr => ∃ i : Nat, i ≤ n ∧ iv = .int .i64 i ∧ ps = .int .i64 (Ix.posF z i) ∧ cv = .int .i64 (cutv z k i) ∧ Two w X Y (Ix.stC ev z i) (Ix.stC ev z (min i k)) wr) (fun _ _ iv _ _ => n - (intOf iv).toNat)
    case atStart => exact ⟨0, Nat.zero_le _, rfl, rfl, by rw [cutv_le (Nat.zero_le _)], by rw [Nat.zero_min]; exact I4.out⟩
    case round =>
      obtain ⟨i, hi, rfl, rfl, rfl, hr⟩ := hrel
      have I := hide hr
      clear hr
      by_cases hin : i < n
      · obtain ⟨b, off, rfl, hbl, hcell⟩ : ∃ b off, A = some ⟨b, off, none⟩ ∧ b < w.heap.size ∧ w.cell? ⟨b, off + i, none⟩ = some (.int .i64 (zs.getD i 0)) := by
          rcases HA.out with e | ⟨b, off, e, hb, hc'⟩
          · have := HN.out; rw [e] at this; simp at this; omega
          · exact ⟨b, off, e, hb, hc' i (by rw [HN.out]; exact hin)⟩
        have cc0 := (I.out.bel.cell (p := ⟨b, off + i, none⟩) hbl).trans hcell
        have hyb := HZ.out i hin
        have hwz := HZE.out i
        obtain ⟨y, hy⟩ : ∃ y, y = zs.getD i 0 := ⟨_, rfl⟩
        rw [← hy] at cc0 hyb hwz
        have HL := hide (fun V => number_any y 60 V (by omega) (by omega) hyb.1 hyb.2)
        replace hwz : IntKind.i64.wrap (y % 60 + 1) = z i := by rw [← hwz, IntKind.wrap_i64]; omega
        obtain ⟨r, hr⟩ : ∃ r, r = y % 60 := ⟨_, rfl⟩
        rw [← hr] at HL hwz
        clear hr hy hyb hcell
        have hpb := Ix.posF_le HZB.out i
        have hzb := HZB.out i
        have hml := Ix.mksF_len (e := ev) (z := z) i
        have hadx := I.out.addX p HS.out (i : Int) (i : Int) (Ix.posF z i) (z i) (by simp [Ix.stC]; omega) (by simp [Ix.stC]; omega)
        rw [Ix.addC heb.1 HZB.out i (by omega)] at hadx
        simp only [errR] at hadx
        have HADX := hide hadx
        have HADYP : Hid (i < k → ∀ V, Two w X Y (Ix.stC ev z (i + 1)) (Ix.stC ev z i) V → Calls Tryd.prog 19 #[.pointer (some ⟨Y, 0, none⟩), .int .i64 i, .int .i64 i, .int .i64 (Ix.posF z i), .int .i64 (z i)] V fun r w' => r = .returned .nilIface ∧ Two w X Y (Ix.stC ev z (i + 1)) (Ix.stC ev z (i + 1)) w') := hide (fun _ V hV => by
          have had := hV.addY p HS.out (i : Int) (i : Int) (Ix.posF z i) (z i) (by simp [Ix.stC]; omega) (by simp [Ix.stC]; omega)
          rw [Ix.addC heb.1 HZB.out i (by omega)] at had
          exact had)
        have HP1 : Hid (Ix.posF z (i + 1) = Ix.posF z i + z i) := hide rfl
        have hwp : IntKind.i64.wrap (Ix.posF z i + z i) = Ix.posF z (i + 1) := by rw [HP1.out, IntKind.wrap_i64]; omega
        have dn : decide ((i : Int) < n) = true := decide_eq_true (by omega)
        clear hadx hml
        obtain ⟨ps, hps⟩ : ∃ ps, ps = Ix.posF z i := ⟨_, rfl⟩
        obtain ⟨zk, hzk⟩ : ∃ zk, zk = z i := ⟨_, rfl⟩
        rw [← hps, ← hzk] at HADX HADYP hwp
        rw [← hzk] at hwz
        rw [← hps]
        have HPS := hide hps
        clear hps hzk hpb hzb
        by_cases hik : i < k
        · rw [Nat.min_eq_left (show i ≤ k by omega)] at HADX
          rw [cutv_le (show i ≤ k by omega)]
          have HADY := hide (HADYP.out hik)
          have d1 : decide ((i : Int) < k) = true := decide_eq_true (by omega)
          have d2 : ((i : Int) == k) = false := by rw [beq_eq_false_iff_ne]; omega
          clear HADYP
          go_wp2_with (first
            | (go_at_call 17; refine (HL.out _).mono ?_; rintro e w3 ⟨rfl, e⟩; subst e)
            | (go_at_call 19; have _t := I5; refine (HADY.out _ I5.out).mono ?_; rintro e w6 ⟨rfl, h6⟩; have I6 := hide h6; clear h6 I5)
            | (go_at_call 19; refine HADX.out.mono ?_; rintro e w5 ⟨rfl, h5⟩; have I5 := hide h5; clear h5)
            | fail)
          go_roundw
          case rel => exact ⟨i + 1, by omega, by go_num, rfl, (by rw [cutv_le (show i + 1 ≤ k by omega)]), (by rw [Nat.min_eq_left (show i + 1 ≤ k by omega)]; exact I6.out)⟩
          case measure => simp [intOf]; omega
        · by_cases hek : i = k
          · have HIK := hide hek
            rw [Nat.min_eq_right (show k ≤ i by omega)] at HADX
            have d1 : decide ((i : Int) < k) = false := decide_eq_false (by omega)
            have d2 : ((i : Int) == k) = true := by rw [beq_iff_eq]; omega
            obtain ⟨cv0, hcv0⟩ : ∃ cv0, cv0 = cutv z k i := ⟨_, rfl⟩
            rw [← hcv0]
            clear HADYP hek hcv0
            go_wp2_with (first
              | (go_at_call 17; refine (HL.out _).mono ?_; rintro e w3 ⟨rfl, e⟩; subst e)
              | (go_at_call 19; refine HADX.out.mono ?_; rintro e w5 ⟨rfl, h5⟩; have I5 := hide h5; clear h5)
              | fail)
            go_roundw
            case rel => exact ⟨i + 1, by omega, by go_num, rfl, (by rw [cutv_gt (show k < i + 1 by omega), HPS.out, HIK.out]), (by rw [Nat.min_eq_right (show k ≤ i + 1 by omega)]; exact I5.out)⟩
            case measure => simp [intOf]; omega
          · rw [Nat.min_eq_right (show k ≤ i by omega)] at HADX
            rw [cutv_gt (show k < i by omega)]
            have d1 : decide ((i : Int) < k) = false := decide_eq_false (by omega)
            have d2 : ((i : Int) == k) = false := by rw [beq_eq_false_iff_ne]; omega
            obtain ⟨cv0, hcv0⟩ : ∃ cv0, cv0 = Ix.posF z k := ⟨_, rfl⟩
            have HCV := hide hcv0
            rw [← hcv0]
            clear HADYP hcv0
            go_wp2_with (first
              | (go_at_call 17; refine (HL.out _).mono ?_; rintro e w3 ⟨rfl, e⟩; subst e)
              | (go_at_call 19; refine HADX.out.mono ?_; rintro e w5 ⟨rfl, h5⟩; have I5 := hide h5; clear h5)
              | fail)
            go_roundw
            case rel => exact ⟨i + 1, by omega, by go_num, rfl, (by rw [cutv_gt (show k < i + 1 by omega), HCV.out]), (by rw [Nat.min_eq_right (show k ≤ i + 1 by omega)]; exact I5.out)⟩
            case measure => simp [intOf]; omega
      · obtain rfl : i = n := by omega
        rw [Nat.min_eq_right hkn] at I
        have dn : decide ((i : Int) < i) = false := decide_eq_false (by omega)
        have hmn := Ix.mksF_len (e := ev) (z := z) i
        have hmk := Ix.mksF_len (e := ev) (z := z) k
        have hpk := Ix.posF_le HZB.out k
        have hcut : ∀ V, Two w X Y (Ix.stC ev z i) (Ix.stC ev z k) V → Calls Tryd.prog 22 #[.pointer (some ⟨X, 0, none⟩), .int .i64 (Ix.posF z k)] V fun r w' => r = .returned (.tuple #[]) ∧ Two w X Y (Ix.cutC ev z k) (Ix.stC ev z k) w' := fun V hV => by
          have h1 := hV.cutX (Ix.posF z k) (by simp [Ix.stC]; omega) (by simp [Ix.stC]; omega) (Ix.mono_marksC (fun x => (HZB.out x).1) i _) (Ix.mono_addsC (fun x => (HZB.out x).1) i _)
          rw [Ix.cut_stC (fun x => (HZB.out x).1) k i hkn] at h1
          exact h1
        have HCUT := hide hcut
        have hmx := fun V (hV : Two w X Y (Ix.cutC ev z k) (Ix.stC ev z k) V) => hV.marksX (by show (Ix.stC ev z k).marks.length ≤ _; simp [Ix.stC]; omega)
        have hmy := fun V (hV : Two w X Y (Ix.cutC ev z k) (Ix.stC ev z k) V) => hV.marksY (by simp [Ix.stC]; omega)
        simp only [show (Ix.cutC ev z k).marks = (Ix.stC ev z k).marks from rfl] at hmx
        obtain ⟨L, hL⟩ : ∃ L, L = (Ix.stC ev z k).marks.length := ⟨_, rfl⟩
        obtain ⟨ms, hms⟩ : ∃ ms : Nat → Ix.Mark, ms = fun j => (Ix.stC ev z k).marks.getD j ⟨0, 0, 0⟩ := ⟨_, rfl⟩
        have hmse : ∀ j, (Ix.stC ev z k).marks.getD j ⟨0, 0, 0⟩ = ms j := fun j => by rw [hms]
        have hLb : L ≤ 60 := by rw [hL]; simp [Ix.stC]; omega
        simp only [hmse, ← hL] at hmx hmy
        have HMX := hide hmx
        have HMY := hide hmy
        have HADD : Hid (∀ V, Two w X Y (Ix.cutC ev z k) (Ix.stC ev z k) V → Calls Tryd.prog 19 #[.pointer (some ⟨X, 0, none⟩), .int .i64 1000, .int .i64 0, .int .i64 1048576, .int .i64 5] V fun r w' => r = .returned .nilIface ∧ Below w.heap.size w w') := hide (fun V hV => by
          have h1 := hV.addX p HS.out 1000 0 1048576 5 (by simp [Ix.cutC, Ix.stC]; omega) (by show (Ix.stC ev z k).marks.length ≤ _; simp [Ix.stC]; omega)
          rw [Ix.add_cutC HZB.out k (by omega)] at h1
          exact h1.mono fun r w' ⟨h, h'⟩ => ⟨h, h'.bel⟩)
        clear hmx hmy hmse hms hL hcut hmn hmk hin
        by_cases hek : k = i
        · have d2 : ((k : Int) == i) = true := by rw [beq_iff_eq]; omega
          rw [cutv_le (show i ≤ k by omega), ← hek]
          rw [← hek] at d2 dn I
          obtain ⟨pk, hpk'⟩ : ∃ pk, pk = Ix.posF z k := ⟨_, rfl⟩
          rw [← hpk'] at HCUT ⊢
          rw [← hek] at HCUT
          clear hpk' hpk
          go_wp2_with (first
            | (go_at_call 22; refine (HCUT.out _ I.out).mono ?_; rintro e w8 ⟨rfl, h8⟩; have I8 := hide h8; clear h8)
            | (go_at_call 14; have _t := I9; refine (HMY.out _ I9.out).mono ?_; rintro e w10 ⟨A10, c10, rfl, hc10, m10, hb⟩; have I10 := hide (I9.out.below hb); have M10 := hide m10; have M9' := hide (fun j (hj : j < L) => keep3 (M9.out j hj) hb); clear hb I9 m10)
            | (go_at_call 14; have _t := I8; refine (HMX.out _ I8.out).mono ?_; rintro e w9 ⟨A9, c9, rfl, hc9, m9, hb⟩; have I9 := hide (I8.out.below hb); have M9 := hide m9; clear hb I8 m9)
            | fail)
          go_loopw [19] (fun jv wq => ∃ j : Nat, j ≤ L ∧ jv = .int .i64 j ∧ ∃ q, wq = w10.drewN q) (fun jv _ => L - (intOf jv).toNat)
          case atStart => exact ⟨0, Nat.zero_le _, rfl, 0, rfl⟩
          case round =>
            obtain ⟨j, hj, rfl, q, hq⟩ := hrel
            have HQ := hide hq
            by_cases hjl : j < L
            · obtain ⟨g9, rfl, -, m0, m1, m2⟩ := M9'.out j hjl
              obtain ⟨g10, rfl, -, n0, n1, n2⟩ := M10.out j hjl
              rw [show w10.cell? ⟨g9, j * 3, none⟩ = wr.cell? ⟨g9, j * 3, none⟩ by rw [hq]; rfl] at m0
              rw [show w10.cell? ⟨g9, j * 3 + 1, none⟩ = wr.cell? ⟨g9, j * 3 + 1, none⟩ by rw [hq]; rfl] at m1
              rw [show w10.cell? ⟨g9, j * 3 + 2, none⟩ = wr.cell? ⟨g9, j * 3 + 2, none⟩ by rw [hq]; rfl] at m2
              rw [show w10.cell? ⟨g10, j * 3, none⟩ = wr.cell? ⟨g10, j * 3, none⟩ by rw [hq]; rfl] at n0
              rw [show w10.cell? ⟨g10, j * 3 + 1, none⟩ = wr.cell? ⟨g10, j * 3 + 1, none⟩ by rw [hq]; rfl] at n1
              rw [show w10.cell? ⟨g10, j * 3 + 2, none⟩ = wr.cell? ⟨g10, j * 3 + 2, none⟩ by rw [hq]; rfl] at n2
              generalize (ms j).off = x0 at *
              generalize (ms j).time = x1 at *
              generalize (ms j).pos = x2 at *
              have b0 : (x0 != x0) = false := bne_self_eq_false x0
              have b1 : (x1 != x1) = false := bne_self_eq_false x1
              have b2 : (x2 != x2) = false := bne_self_eq_false x2
              have hlt : decide ((j : Int) < L) = true := decide_eq_true (by omega)
              clear hq
              go_wp2_with fail
              go_quiet (fail)
              rename Nat => q1
              go_wp2_with fail
              go_roundw
              case rel => exact ⟨j + 1, by omega, by go_num, by rw [HQ.out, World.drewN_drewN]; exact ⟨_, rfl⟩⟩
              case measure => simp [intOf]; omega
            · have hlt : decide ((j : Int) < L) = false := decide_eq_false (by omega)
              have I11 : Hid (Two w X Y (Ix.cutC ev z k) (Ix.stC ev z k) wr) := hide (by rw [hq]; exact I10.out.below (below_drewN (Below.refl _ _) q))
              clear hq
              go_wp2_with (first
                | (go_at_call 19; refine (HADD.out _ I11.out).mono ?_; rintro e w12 ⟨rfl, hb⟩; have HB12 := hide hb; clear hb)
                | fail)
              go_ret
              exact ⟨rfl, HB12.out⟩
        · have d2 : ((k : Int) == i) = false := by rw [beq_eq_false_iff_ne]; omega
          rw [cutv_gt (show k < i by omega)]
          obtain ⟨pk, hpk'⟩ : ∃ pk, pk = Ix.posF z k := ⟨_, rfl⟩
          obtain ⟨pn, hpn'⟩ : ∃ pn, pn = Ix.posF z i := ⟨_, rfl⟩
          rw [← hpk'] at HCUT ⊢
          rw [← hpn']
          clear hpk' hpk hpn'
          go_wp2_with (first
            | (go_at_call 22; refine (HCUT.out _ I.out).mono ?_; rintro e w8 ⟨rfl, h8⟩; have I8 := hide h8; clear h8)
            | (go_at_call 14; have _t := I9; refine (HMY.out _ I9.out).mono ?_; rintro e w10 ⟨A10, c10, rfl, hc10, m10, hb⟩; have I10 := hide (I9.out.below hb); have M10 := hide m10; have M9' := hide (fun j (hj : j < L) => keep3 (M9.out j hj) hb); clear hb I9 m10)
            | (go_at_call 14; have _t := I8; refine (HMX.out _ I8.out).mono ?_; rintro e w9 ⟨A9, c9, rfl, hc9, m9, hb⟩; have I9 := hide (I8.out.below hb); have M9 := hide m9; clear hb I8 m9)
            | fail)
          go_loopw [19] (fun jv wq => ∃ j : Nat, j ≤ L ∧ jv = .int .i64 j ∧ ∃ q, wq = w10.drewN q) (fun jv _ => L - (intOf jv).toNat)
          case atStart => exact ⟨0, Nat.zero_le _, rfl, 0, rfl⟩
          case round =>
            obtain ⟨j, hj, rfl, q, hq⟩ := hrel
            have HQ := hide hq
            by_cases hjl : j < L
            · obtain ⟨g9, rfl, -, m0, m1, m2⟩ := M9'.out j hjl
              obtain ⟨g10, rfl, -, n0, n1, n2⟩ := M10.out j hjl
              rw [show w10.cell? ⟨g9, j * 3, none⟩ = wr.cell? ⟨g9, j * 3, none⟩ by rw [hq]; rfl] at m0
              rw [show w10.cell? ⟨g9, j * 3 + 1, none⟩ = wr.cell? ⟨g9, j * 3 + 1, none⟩ by rw [hq]; rfl] at m1
              rw [show w10.cell? ⟨g9, j * 3 + 2, none⟩ = wr.cell? ⟨g9, j * 3 + 2, none⟩ by rw [hq]; rfl] at m2
              rw [show w10.cell? ⟨g10, j * 3, none⟩ = wr.cell? ⟨g10, j * 3, none⟩ by rw [hq]; rfl] at n0
              rw [show w10.cell? ⟨g10, j * 3 + 1, none⟩ = wr.cell? ⟨g10, j * 3 + 1, none⟩ by rw [hq]; rfl] at n1
              rw [show w10.cell? ⟨g10, j * 3 + 2, none⟩ = wr.cell? ⟨g10, j * 3 + 2, none⟩ by rw [hq]; rfl] at n2
              generalize (ms j).off = x0 at *
              generalize (ms j).time = x1 at *
              generalize (ms j).pos = x2 at *
              have b0 : (x0 != x0) = false := bne_self_eq_false x0
              have b1 : (x1 != x1) = false := bne_self_eq_false x1
              have b2 : (x2 != x2) = false := bne_self_eq_false x2
              have hlt : decide ((j : Int) < L) = true := decide_eq_true (by omega)
              clear hq
              go_wp2_with fail
              go_quiet (fail)
              rename Nat => q1
              go_wp2_with fail
              go_roundw
              case rel => exact ⟨j + 1, by omega, by go_num, by rw [HQ.out, World.drewN_drewN]; exact ⟨_, rfl⟩⟩
              case measure => simp [intOf]; omega
            · have hlt : decide ((j : Int) < L) = false := decide_eq_false (by omega)
              have I11 : Hid (Two w X Y (Ix.cutC ev z k) (Ix.stC ev z k) wr) := hide (by rw [hq]; exact I10.out.below (below_drewN (Below.refl _ _) q))
              clear hq
              go_wp2_with (first
                | (go_at_call 19; refine (HADD.out _ I11.out).mono ?_; rintro e w12 ⟨rfl, hb⟩; have HB12 := hide hb; clear hb)
                | fail)
              go_ret
              exact ⟨rfl, HB12.out⟩
end Go.Proofs.YteeadlefbehhfaaDoor
