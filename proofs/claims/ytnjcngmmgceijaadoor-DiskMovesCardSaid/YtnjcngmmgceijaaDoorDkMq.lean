/-
  DiskMoves walked.
-/
import Derived.Test.YtnjcngmmgceijaaDoorDkMo
namespace Go.Proofs.YtnjcngmmgceijaaDoor
open Go.RowKit Go.Maps Go.Sort

theorem intsMade1 (w : World) (x : Int) (hx : -9223372036854775808 ≤ x ∧ x ≤ 9223372036854775807) (cs : Array Value) (e : TypeId) (fr : Nat × Nat) (hc : #[Value.int .i64 x] = cs) : IntsArg (w.alloc (.cells cs e fr)) (some ⟨w.heap.size, 0, none⟩) 1 [x] := by
  subst hc
  refine ⟨by simp, by omega, fun h => (by cases h), fun j hj => ⟨w.heap.size, 0, rfl, ?_⟩, fun z hz => ?_⟩
  · rw [World.cell?_alloc_mark]
    match j, hj with
    | 0, _ => rfl
  · simp at hz
    subst hz
    exact hx
theorem Sess.list_is {w0 w : World} {n Bd : Nat} {s : Dk.St} (h : Sess w0 n Bd s w) (hn : n ≤ 1000) (l : List Dk.Nm) (k : Nat) (hl : Dk.Lists s.names l) (hk : l.length = k) :
    Calls Tryd.prog 10 #[.pointer (some ⟨Bd, 0, none⟩)] w fun e w' => ∃ A c, e = .returned (.slice A k c) ∧ ReadsT w' A l ∧ Sess w0 n Bd s w' := by
  refine (h.list hn).mono ?_
  rintro e w' ⟨v, m, rfl, hm, ho, hb⟩
  obtain rfl := hm.one hl
  subst hk
  obtain ⟨A, c, rfl, hr, -⟩ := ho.reads
  exact ⟨A, c, rfl, hr, h.grow hb⟩
theorem Sess.read_is {w0 w : World} {n Bd : Nat} {s : Dk.St} (h : Sess w0 n Bd s w) (p : Nat → Addr) (hs : SentsD w0 p) (hn : n ≤ 1000) (k : Dk.Nm) (hk : k.length ≤ 1000) (m : Int) (b : Dk.Nm) (nb : Nat) (hb : b.length = nb) (hr : s.readOf k 0 m = (none, b)) :
    Calls Tryd.prog 23 #[.pointer (some ⟨Bd, 0, none⟩), encStr k, .int .i64 0, .int .i64 m] w fun e w' => ∃ A c, e = .returned (.tuple #[.slice A nb c, .nilIface]) ∧ Reads w' A b ∧ Sess w0 n Bd s w' := by
  refine (h.read p hs hn k hk 0 m (by omega)).mono ?_
  rintro e w' ⟨v, rfl, ho, hb1⟩
  rw [hr] at ho ⊢
  obtain ⟨A, c, rfl, ha⟩ := own_n ho hb
  exact ⟨A, c, rfl, ha.reads, h.grow hb1⟩

set_option maxRecDepth 100000 in
set_option maxHeartbeats 4000000 in
theorem moves_any (w : World) (p : Nat → Addr) (hsd : SentsD w p) (Aa Ab : Option Addr) (ca cb na nb : Nat) (a b : List UInt8) (hna : a.length = na) (hnb : b.length = nb) (ha : Arg w Aa ca a) (hb : Arg w Ab cb b) (dir : Bool) (z : Int) (hz : -9223372036854775808 ≤ z ∧ z ≤ 9223372036854775807) :
    Calls Tryd.prog 6 #[.slice Aa na ca, .slice Ab nb cb, .bool dir, .int .i64 z] w fun e w' => e = .returned (.bool true) ∧ Below w.heap.size w w' := by
  have HFI := hide (first_any w p hsd)
  have HSD := hide hsd
  have HA := hide ha
  have HB := hide hb
  have HNA := hide hna
  have HNB := hide hnb
  clear hsd ha hb hna hnb
  by_cases la : 200 < na
  · go_enter Tryd.func6, Tryd.ntmps6
    go_wp2_with (go_at_call 8; refine HFI.out.mono ?_; rintro e w1 ⟨rfl, hb1⟩; have HB1 := hide hb1; clear hb1)
    go_ret
    exact ⟨rfl, HB1.out⟩
  by_cases lb : 200 < nb
  · go_enter Tryd.func6, Tryd.ntmps6
    go_wp2_with (go_at_call 8; refine HFI.out.mono ?_; rintro e w1 ⟨rfl, hb1⟩; have HB1 := hide hb1; clear hb1)
    go_ret
    exact ⟨rfl, HB1.out⟩
  have HNW := hide (fun W => new_sess 1000 W W (Below.refl _ _) (by omega) (by omega))
  have HST := hide (fun i => Dk.moves_states i a b (by have := HNA.out; omega) (by have := HNB.out; omega))
  cases dir
  · go_enter Tryd.func6, Tryd.ntmps6
    go_wp2_with (first
      | (go_at_call 8; refine HFI.out.mono ?_; rintro e w1 ⟨rfl, hb1⟩; have HB1 := hide hb1; have HAA := hide (HA.out.below hb1 (Nat.le_refl _)); have HAB := hide (HB.out.below hb1 (Nat.le_refl _)); have HD1 := hide (HSD.out.below hb1); clear hb1)
      | (go_at_call 9; refine (HNW.out w1).mono ?_; rintro e w2 ⟨Bd, rfl, h2, -⟩; obtain ⟨s3, s4, s5, e3, e4, e5, n5, e6⟩ := HST.out w2.heap.size; have H2 := hide h2; have E3 := hide e3; have E4 := hide e4; have E5 := hide e5; have N5 := hide n5; have E6X := hide e6; clear h2 e3 e4 e5 n5 e6)
      | (go_at_call 12; refine (H5.out.create p HD1.out (by omega) Dk.newN (by decide)).mono ?_; rintro e w6 ⟨rfl, h6⟩; obtain ⟨s6, s7, s8, s9, s10, s11, e6, e7, e8, e9, e10, t10, e11, t11⟩ := E6X.out w5.heap.size (Nat.ne_of_lt (H5.out.disk.ref.1 Dk.oldN w2.heap.size N5.out).1); rw [e6] at h6 ⊢; have H6 := hide h6; have E7 := hide e7; have E8 := hide e8; have E9 := hide e9; have E10 := hide e10; have E11 := hide e11; have T10 := hide t10; have T11 := hide t11; clear h6 e6 e7 e8 e9 e10 e11 t10 t11; simp only [errR])
      | (go_at_call 12; refine (H2.out.create p HD1.out (by omega) Dk.oldN (by decide)).mono ?_; rintro e w3 ⟨rfl, h3⟩; rw [E3.out] at h3 ⊢; have H3 := hide h3; clear h3; simp only [errR])
      | (go_at_call 19; refine (H6.out.append p HD1.out (by omega) Dk.newN (by decide) _ _ _ b (Below.refl _ _) (HAB.out.below H6.out.below (Nat.le_refl _)) HNB.out (by omega) (fun x o e hl => .inl (HAB.out.lt x o e hl))).mono ?_; rintro e w7 ⟨rfl, h7⟩; rw [E7.out] at h7 ⊢; have H7 := hide h7; clear h7; simp only [errR])
      | (go_at_call 19; refine (H3.out.append p HD1.out (by omega) Dk.oldN (by decide) _ _ _ a (Below.refl _ _) (HAA.out.below H3.out.below (Nat.le_refl _)) HNA.out (by omega) (fun x o e hl => .inl (HAA.out.lt x o e hl))).mono ?_; rintro e w4 ⟨rfl, h4⟩; rw [E4.out] at h4 ⊢; have H4 := hide h4; clear h4; simp only [errR])
      | (go_at_call 26; refine (H7.out.sync p HD1.out (by omega) Dk.newN (by decide)).mono ?_; rintro e w8 ⟨rfl, h8⟩; rw [E8.out] at h8 ⊢; have H8 := hide h8; clear h8; simp only [errR])
      | (go_at_call 26; refine (H4.out.sync p HD1.out (by omega) Dk.oldN (by decide)).mono ?_; rintro e w5 ⟨rfl, h5⟩; rw [E5.out] at h5 ⊢; have H5 := hide h5; clear h5; simp only [errR])
      | (go_at_call 17; refine (H10.out.syncDir p HD1.out (by omega)).mono ?_; rintro e wt ⟨rfl, h11⟩; rw [E11.out] at h11 ⊢; have HT := hide h11; have TD := T11; clear h11; simp only [errR])
      | (go_at_call 17; refine (H8.out.syncDir p HD1.out (by omega)).mono ?_; rintro e w9 ⟨rfl, h9⟩; rw [E9.out] at h9 ⊢; have H9 := hide h9; clear h9; simp only [errR])
      | (go_at_call 14; refine (H9.out.rename p HD1.out (by omega) Dk.newN Dk.oldN (by decide) (by decide)).mono ?_; rintro e w10 ⟨rfl, h10⟩; rw [E10.out] at h10 ⊢; have H10 := hide h10; clear h10; simp only [errR])
      | fail)
    have HT := H10
    have TD := T10
    obtain ⟨wt, hwt⟩ : ∃ wt, wt = w10 := ⟨_, rfl⟩
    rw [← hwt] at HT ⊢
    clear hwt
    have HRD := hide (show s10.readOf Dk.oldN 0 (nb : Int) = (none, b) by have := TD.out.read; rwa [HNB.out] at this)
    have HUS := hide (show s10.used = (nb : Int) by have := TD.out.used; rwa [HNB.out] at this)
    have HLI := hide (show Dk.Lists s10.names [Dk.oldN] by rw [TD.out.names]; exact Dk.only_lists _)
    clear HST HNW HFI E3 E4 E5 N5 E6X E7 E8 E9 E10 E11 H2 H3 H4 H5 H6 H7 H8 H9 H10 T10 T11
    refine (HT.out.read_is p HD1.out (by omega) Dk.oldN (by decide) (nb : Int) b nb HNB.out HRD.out).mono ?_
    rintro e wa ⟨Ax, cx, rfl, hrx, hta⟩
    have HTA := hide hta
    have HRX := hide hrx
    clear hta hrx HT
    go_wp2_with (first
      | (go_at_call 27; refine (sameBytes_any _ _ _ _ nb nb b b _ HNB.out HNB.out (by omega) (by omega) HRX.out (HAB.out.below HTA.out.below (Nat.le_refl _)).reads).mono ?_; rintro e wb ⟨rfl, q, hq⟩; rw [decide_eq_true rfl]; have hb := HTA.out.drewN q; rw [← hq] at hb; have HTB := hide hb; clear hb hq)
      | (go_at_call 10; refine (HTB.out.list_is (by omega) [Dk.oldN] 1 HLI.out rfl).mono ?_; rintro e wl ⟨Al, cl, rfl, hrl, hl⟩; have HTL := hide hl; have HRL := hide hrl; clear hl hrl)
      | (go_at_call 16; refine (sameTexts_any _ _ _ _ 1 1 [Dk.oldN] [Dk.oldN] _ rfl rfl (by omega) (by omega) (HRL.out.below (balloc (Below.refl _ _) _) (Nat.le_refl _)) (ReadsT.made wl [Dk.oldN] _ _ _ _ rfl rfl)).mono ?_; rintro e wm ⟨rfl, q, hq⟩; rw [decide_eq_true rfl]; have hm := HTL.out.grow (w' := wm) (by rw [hq]; exact below_drewN (balloc (Below.refl _ _) _) q); have HTM := hide hm; clear hm hq)
      | (go_at_call 25; refine HTM.out.used.mono ?_; rintro e wm ⟨rfl, rfl⟩; rw [HUS.out])
      | fail)
    refine (HTM.out.crash (by omega) _ _ _ [z] (balloc (Below.refl _ _) _) (intsMade1 wm z hz _ _ _ rfl) rfl (fun x o e _ => by cases e; exact ⟨.inr (Nat.le_refl _), by simp⟩)).mono ?_
    rintro e wc ⟨rfl, ys, hy, hc⟩
    obtain ⟨hfd, hcase⟩ := TD.out.crash z ys hy (order_ref HTM.out.disk _ ys hy)
    have HC := hide hc
    have HFD := hide hfd
    clear hc hfd hy HTM HTL HRL HTB HTA HRX HLI HUS HRD TD
    rcases hcase with ⟨n1, l1, r1⟩ | ⟨hd, n1, l1, r1⟩
    · have HRD := hide (show (s10.crash [z] ys).readOf Dk.oldN 0 (nb : Int) = (none, b) by rwa [HNB.out] at r1)
      have HLN := hide (show (s10.crash [z] ys).lenOf Dk.oldN = (nb : Int) by rwa [HNB.out] at l1)
      have HLI := hide (show Dk.Lists (s10.crash [z] ys).names [Dk.oldN] by rw [n1]; exact Dk.only_lists _)
      clear n1 l1 r1
      generalize s10.crash [z] ys = u at *
      go_wp2_with (first
        | (go_at_call 24; refine (HC.out.len p HD1.out Dk.oldN (by decide)).mono ?_; rintro e wd ⟨rfl, q, hq⟩; rw [HLN.out, HFD.out]; have h8 := HC.out.drewN q; rw [← hq] at h8; have HD := hide h8; clear h8 hq; simp only [errR])
        | (go_at_call 23; refine (HD.out.read_is p HD1.out (by omega) Dk.oldN (by decide) (nb : Int) b nb HNB.out HRD.out).mono ?_; rintro e wr ⟨Ay, cy, rfl, hry, hr⟩; have HR := hide hr; have HRY := hide hry; clear hr hry)
        | (go_at_call 10; refine (HR.out.list (by omega)).mono ?_; rintro e wl ⟨vl, m, rfl, hm, ho, hb⟩; obtain rfl := hm.one HLI.out; obtain ⟨Al, cl, rfl, hrl, -⟩ := ho.reads; have HL := hide (HR.out.grow hb); have HRL := hide hrl; have HRW := hide (HRY.out.below hb (Nat.le_refl _)); clear hrl hb ho hm)
        | (go_at_call 16; refine (sameTexts_any _ _ _ _ 1 1 [Dk.oldN] [Dk.oldN] _ rfl rfl (by omega) (by omega) (HRL.out.below (balloc (Below.refl _ _) _) (Nat.le_refl _)) (ReadsT.made wl [Dk.oldN] _ _ _ _ rfl rfl)).mono ?_; rintro e wm ⟨rfl, q, hq⟩; rw [decide_eq_true rfl]; have hbm : Below wl.heap.size wl wm := (by rw [hq]; exact below_drewN (balloc (Below.refl _ _) _) q); have HM := hide (HL.out.grow hbm); have HRM := hide (HRW.out.below hbm (Nat.le_refl _)); clear hbm hq)
        | (go_at_call 27; refine (sameBytes_any _ _ _ _ nb nb b b _ HNB.out HNB.out (by omega) (by omega) HRM.out (HAB.out.below HM.out.below (Nat.le_refl _)).reads).mono ?_; rintro e wb ⟨rfl, q, hq⟩; rw [decide_eq_true rfl]; have hb := HM.out.drewN q; rw [← hq] at hb; have HE := hide hb; clear hb hq)
        | fail)
      go_ret
      exact ⟨rfl, HB1.out.trans (HE.out.below.mono HB1.out.size)⟩
    · have HRD := hide (show (s10.crash [z] ys).readOf Dk.oldN 0 (na : Int) = (none, a) by rwa [HNA.out] at r1)
      have HLN := hide (show (s10.crash [z] ys).lenOf Dk.oldN = (na : Int) by rwa [HNA.out] at l1)
      have HLI := hide (show Dk.Lists (s10.crash [z] ys).names [Dk.newN, Dk.oldN] by rw [n1]; exact Dk.both_lists _ _)
      clear n1 l1 r1
      generalize s10.crash [z] ys = u at *
      go_wp2_with (first
        | (go_at_call 24; refine (HC.out.len p HD1.out Dk.oldN (by decide)).mono ?_; rintro e wd ⟨rfl, q, hq⟩; rw [HLN.out, HFD.out]; have h8 := HC.out.drewN q; rw [← hq] at h8; have HD := hide h8; clear h8 hq; simp only [errR])
        | (go_at_call 23; refine (HD.out.read_is p HD1.out (by omega) Dk.oldN (by decide) (na : Int) a na HNA.out HRD.out).mono ?_; rintro e wr ⟨Ay, cy, rfl, hry, hr⟩; have HR := hide hr; have HRY := hide hry; clear hr hry)
        | (go_at_call 10; refine (HE.out.list_is (by omega) [Dk.newN, Dk.oldN] 2 HLI.out rfl).mono ?_; rintro e wg ⟨Ag, cg, rfl, hrg, hg⟩; have HG := hide hg; have HRG := hide hrg; clear hg hrg)
        | (go_at_call 16; refine (sameTexts_any _ _ _ _ 2 2 [Dk.newN, Dk.oldN] [Dk.newN, Dk.oldN] _ rfl rfl (by omega) (by omega) (HRG.out.below (balloc (Below.refl _ _) _) (Nat.le_refl _)) (ReadsT.made wg [Dk.newN, Dk.oldN] _ _ _ _ rfl rfl)).mono ?_; rintro e wz ⟨rfl, q, hq⟩; rw [decide_eq_true rfl]; have hm := HG.out.grow (w' := wz) (by rw [hq]; exact below_drewN (balloc (Below.refl _ _) _) q); have HZ := hide hm; clear hm hq)
        | (go_at_call 10; refine (HR.out.list (by omega)).mono ?_; rintro e wl ⟨vl, m, rfl, hm, ho, hb⟩; obtain rfl := hm.one HLI.out; obtain ⟨Al, cl, rfl, hrl, -⟩ := ho.reads; have HL := hide (HR.out.grow hb); have HRL := hide hrl; have HRW := hide (HRY.out.below hb (Nat.le_refl _)); clear hrl hb ho hm)
        | (go_at_call 16; refine (sameTexts_any _ _ _ _ 2 1 [Dk.newN, Dk.oldN] [Dk.oldN] _ rfl rfl (by omega) (by omega) (HRL.out.below (balloc (Below.refl _ _) _) (Nat.le_refl _)) (ReadsT.made wl [Dk.oldN] _ _ _ _ rfl rfl)).mono ?_; rintro e wm ⟨rfl, q, hq⟩; rw [decide_eq_false (by decide)]; have hbm : Below wl.heap.size wl wm := (by rw [hq]; exact below_drewN (balloc (Below.refl _ _) _) q); have HM := hide (HL.out.grow hbm); have HRM := hide (HRW.out.below hbm (Nat.le_refl _)); clear hbm hq)
        | (go_at_call 27; refine (sameBytes_any _ _ _ _ na na a a _ HNA.out HNA.out (by omega) (by omega) HRM.out (HAA.out.below HM.out.below (Nat.le_refl _)).reads).mono ?_; rintro e wb ⟨rfl, q, hq⟩; rw [decide_eq_true rfl]; have hb := HM.out.drewN q; rw [← hq] at hb; have HE := hide hb; clear hb hq)
        | fail)
      go_ret
      exact ⟨rfl, HB1.out.trans (HZ.out.below.mono HB1.out.size)⟩
  · go_enter Tryd.func6, Tryd.ntmps6
    go_wp2_with (first
      | (go_at_call 8; refine HFI.out.mono ?_; rintro e w1 ⟨rfl, hb1⟩; have HB1 := hide hb1; have HAA := hide (HA.out.below hb1 (Nat.le_refl _)); have HAB := hide (HB.out.below hb1 (Nat.le_refl _)); have HD1 := hide (HSD.out.below hb1); clear hb1)
      | (go_at_call 9; refine (HNW.out w1).mono ?_; rintro e w2 ⟨Bd, rfl, h2, -⟩; obtain ⟨s3, s4, s5, e3, e4, e5, n5, e6⟩ := HST.out w2.heap.size; have H2 := hide h2; have E3 := hide e3; have E4 := hide e4; have E5 := hide e5; have N5 := hide n5; have E6X := hide e6; clear h2 e3 e4 e5 n5 e6)
      | (go_at_call 12; refine (H5.out.create p HD1.out (by omega) Dk.newN (by decide)).mono ?_; rintro e w6 ⟨rfl, h6⟩; obtain ⟨s6, s7, s8, s9, s10, s11, e6, e7, e8, e9, e10, t10, e11, t11⟩ := E6X.out w5.heap.size (Nat.ne_of_lt (H5.out.disk.ref.1 Dk.oldN w2.heap.size N5.out).1); rw [e6] at h6 ⊢; have H6 := hide h6; have E7 := hide e7; have E8 := hide e8; have E9 := hide e9; have E10 := hide e10; have E11 := hide e11; have T10 := hide t10; have T11 := hide t11; clear h6 e6 e7 e8 e9 e10 e11 t10 t11; simp only [errR])
      | (go_at_call 12; refine (H2.out.create p HD1.out (by omega) Dk.oldN (by decide)).mono ?_; rintro e w3 ⟨rfl, h3⟩; rw [E3.out] at h3 ⊢; have H3 := hide h3; clear h3; simp only [errR])
      | (go_at_call 19; refine (H6.out.append p HD1.out (by omega) Dk.newN (by decide) _ _ _ b (Below.refl _ _) (HAB.out.below H6.out.below (Nat.le_refl _)) HNB.out (by omega) (fun x o e hl => .inl (HAB.out.lt x o e hl))).mono ?_; rintro e w7 ⟨rfl, h7⟩; rw [E7.out] at h7 ⊢; have H7 := hide h7; clear h7; simp only [errR])
      | (go_at_call 19; refine (H3.out.append p HD1.out (by omega) Dk.oldN (by decide) _ _ _ a (Below.refl _ _) (HAA.out.below H3.out.below (Nat.le_refl _)) HNA.out (by omega) (fun x o e hl => .inl (HAA.out.lt x o e hl))).mono ?_; rintro e w4 ⟨rfl, h4⟩; rw [E4.out] at h4 ⊢; have H4 := hide h4; clear h4; simp only [errR])
      | (go_at_call 26; refine (H7.out.sync p HD1.out (by omega) Dk.newN (by decide)).mono ?_; rintro e w8 ⟨rfl, h8⟩; rw [E8.out] at h8 ⊢; have H8 := hide h8; clear h8; simp only [errR])
      | (go_at_call 26; refine (H4.out.sync p HD1.out (by omega) Dk.oldN (by decide)).mono ?_; rintro e w5 ⟨rfl, h5⟩; rw [E5.out] at h5 ⊢; have H5 := hide h5; clear h5; simp only [errR])
      | (go_at_call 17; refine (H10.out.syncDir p HD1.out (by omega)).mono ?_; rintro e wt ⟨rfl, h11⟩; rw [E11.out] at h11 ⊢; have HT := hide h11; have TD := T11; clear h11; simp only [errR])
      | (go_at_call 17; refine (H8.out.syncDir p HD1.out (by omega)).mono ?_; rintro e w9 ⟨rfl, h9⟩; rw [E9.out] at h9 ⊢; have H9 := hide h9; clear h9; simp only [errR])
      | (go_at_call 14; refine (H9.out.rename p HD1.out (by omega) Dk.newN Dk.oldN (by decide) (by decide)).mono ?_; rintro e w10 ⟨rfl, h10⟩; rw [E10.out] at h10 ⊢; have H10 := hide h10; clear h10; simp only [errR])
      | fail)
    have HRD := hide (show s11.readOf Dk.oldN 0 (nb : Int) = (none, b) by have := TD.out.read; rwa [HNB.out] at this)
    have HUS := hide (show s11.used = (nb : Int) by have := TD.out.used; rwa [HNB.out] at this)
    have HLI := hide (show Dk.Lists s11.names [Dk.oldN] by rw [TD.out.names]; exact Dk.only_lists _)
    clear HST HNW HFI E3 E4 E5 N5 E6X E7 E8 E9 E10 E11 H2 H3 H4 H5 H6 H7 H8 H9 H10 T10 T11
    refine (HT.out.read_is p HD1.out (by omega) Dk.oldN (by decide) (nb : Int) b nb HNB.out HRD.out).mono ?_
    rintro e wa ⟨Ax, cx, rfl, hrx, hta⟩
    have HTA := hide hta
    have HRX := hide hrx
    clear hta hrx HT
    go_wp2_with (first
      | (go_at_call 27; refine (sameBytes_any _ _ _ _ nb nb b b _ HNB.out HNB.out (by omega) (by omega) HRX.out (HAB.out.below HTA.out.below (Nat.le_refl _)).reads).mono ?_; rintro e wb ⟨rfl, q, hq⟩; rw [decide_eq_true rfl]; have hb := HTA.out.drewN q; rw [← hq] at hb; have HTB := hide hb; clear hb hq)
      | (go_at_call 10; refine (HTB.out.list_is (by omega) [Dk.oldN] 1 HLI.out rfl).mono ?_; rintro e wl ⟨Al, cl, rfl, hrl, hl⟩; have HTL := hide hl; have HRL := hide hrl; clear hl hrl)
      | (go_at_call 16; refine (sameTexts_any _ _ _ _ 1 1 [Dk.oldN] [Dk.oldN] _ rfl rfl (by omega) (by omega) (HRL.out.below (balloc (Below.refl _ _) _) (Nat.le_refl _)) (ReadsT.made wl [Dk.oldN] _ _ _ _ rfl rfl)).mono ?_; rintro e wm ⟨rfl, q, hq⟩; rw [decide_eq_true rfl]; have hm := HTL.out.grow (w' := wm) (by rw [hq]; exact below_drewN (balloc (Below.refl _ _) _) q); have HTM := hide hm; clear hm hq)
      | (go_at_call 25; refine HTM.out.used.mono ?_; rintro e wm ⟨rfl, rfl⟩; rw [HUS.out])
      | fail)
    refine (HTM.out.crash (by omega) _ _ _ [z] (balloc (Below.refl _ _) _) (intsMade1 wm z hz _ _ _ rfl) rfl (fun x o e _ => by cases e; exact ⟨.inr (Nat.le_refl _), by simp⟩)).mono ?_
    rintro e wc ⟨rfl, ys, hy, hc⟩
    obtain ⟨hfd, hcase⟩ := TD.out.crash z ys hy (order_ref HTM.out.disk _ ys hy)
    have HC := hide hc
    have HFD := hide hfd
    clear hc hfd hy HTM HTL HRL HTB HTA HRX HLI HUS HRD TD
    rcases hcase with ⟨n1, l1, r1⟩ | ⟨hd, n1, l1, r1⟩
    · have HRD := hide (show (s11.crash [z] ys).readOf Dk.oldN 0 (nb : Int) = (none, b) by rwa [HNB.out] at r1)
      have HLN := hide (show (s11.crash [z] ys).lenOf Dk.oldN = (nb : Int) by rwa [HNB.out] at l1)
      have HLI := hide (show Dk.Lists (s11.crash [z] ys).names [Dk.oldN] by rw [n1]; exact Dk.only_lists _)
      clear n1 l1 r1
      generalize s11.crash [z] ys = u at *
      go_wp2_with (first
        | (go_at_call 24; refine (HC.out.len p HD1.out Dk.oldN (by decide)).mono ?_; rintro e wd ⟨rfl, q, hq⟩; rw [HLN.out, HFD.out]; have h8 := HC.out.drewN q; rw [← hq] at h8; have HD := hide h8; clear h8 hq; simp only [errR])
        | (go_at_call 23; refine (HD.out.read_is p HD1.out (by omega) Dk.oldN (by decide) (nb : Int) b nb HNB.out HRD.out).mono ?_; rintro e wr ⟨Ay, cy, rfl, hry, hr⟩; have HR := hide hr; have HRY := hide hry; clear hr hry)
        | (go_at_call 10; refine (HR.out.list (by omega)).mono ?_; rintro e wl ⟨vl, m, rfl, hm, ho, hb⟩; obtain rfl := hm.one HLI.out; obtain ⟨Al, cl, rfl, hrl, -⟩ := ho.reads; have HL := hide (HR.out.grow hb); have HRL := hide hrl; have HRW := hide (HRY.out.below hb (Nat.le_refl _)); clear hrl hb ho hm)
        | (go_at_call 16; refine (sameTexts_any _ _ _ _ 1 1 [Dk.oldN] [Dk.oldN] _ rfl rfl (by omega) (by omega) (HRL.out.below (balloc (Below.refl _ _) _) (Nat.le_refl _)) (ReadsT.made wl [Dk.oldN] _ _ _ _ rfl rfl)).mono ?_; rintro e wm ⟨rfl, q, hq⟩; rw [decide_eq_true rfl]; have hbm : Below wl.heap.size wl wm := (by rw [hq]; exact below_drewN (balloc (Below.refl _ _) _) q); have HM := hide (HL.out.grow hbm); have HRM := hide (HRW.out.below hbm (Nat.le_refl _)); clear hbm hq)
        | (go_at_call 27; refine (sameBytes_any _ _ _ _ nb nb b b _ HNB.out HNB.out (by omega) (by omega) HRM.out (HAB.out.below HM.out.below (Nat.le_refl _)).reads).mono ?_; rintro e wb ⟨rfl, q, hq⟩; rw [decide_eq_true rfl]; have hb := HM.out.drewN q; rw [← hq] at hb; have HE := hide hb; clear hb hq)
        | fail)
      go_ret
      exact ⟨rfl, HB1.out.trans (HE.out.below.mono HB1.out.size)⟩
    · cases hd
end Go.Proofs.YtnjcngmmgceijaaDoor
