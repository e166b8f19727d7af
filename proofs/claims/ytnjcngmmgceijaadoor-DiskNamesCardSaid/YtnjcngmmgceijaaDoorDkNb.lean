/-
  DiskNames walked.
-/
import Derived.Test.YtnjcngmmgceijaaDoorDkNa
import Derived.Test.YtnjcngmmgceijaaDoorDkSs
import Derived.Laws.IdiomStrings
namespace Go.Proofs.YtnjcngmmgceijaaDoor
open Go.RowKit Go.Maps Go.Sort

/-- The names of DiskNames. -/
def Dk.ln (i : Nat) : Dk.Nm := [UInt8.ofNat (97 + i)]
theorem ln_valid : ∀ i, i < 5 → Dk.valid (Dk.ln i) = true := by decide +kernel
theorem ln_ne (i : Nat) : Dk.ln i ≠ [] := by simp [Dk.ln]
theorem tdiv_in (z : Int) (hz : -9223372036854775808 ≤ z ∧ z ≤ 9223372036854775807) : (-9223372036854775808 ≤ z.tdiv 5 ∧ z.tdiv 5 ≤ 9223372036854775807) ∧ (-9223372036854775808 ≤ z.tdiv 25 ∧ z.tdiv 25 ≤ 9223372036854775807) := by
  by_cases h : 0 ≤ z
  · rw [Int.tdiv_eq_ediv_of_nonneg h, Int.tdiv_eq_ediv_of_nonneg h]; omega
  · have e : ∀ d : Int, z.tdiv d = -((-z).tdiv d) := fun d => by rw [Int.neg_tdiv, Int.neg_neg]
    rw [e, e, Int.tdiv_eq_ediv_of_nonneg (by omega), Int.tdiv_eq_ediv_of_nonneg (by omega)]; omega
theorem ln_conv (N : Nat) (hN : N < 5) (W : World) (t : TypeId) : (convert 33 9 (.slice (some ⟨W.heap.size, 0, none⟩) 1 1)).run Tryd.prog (W.alloc (.cells #[.int .u8 (97 + (N : Int))] t)) = .ok (encStr (Dk.ln N)) (W.alloc (.cells #[.int .u8 (97 + (N : Int))] t)) := by
  refine run_convert_bytes_back _ _ _ 5 ⟨W.heap.size, 0, none⟩ 1 (Dk.ln N) Tryd.underlying33 Tryd.underlying5 Tryd.underlying9 fun j hj => ?_
  obtain rfl : j = 0 := by simp [Dk.ln] at hj; omega
  rw [show (⟨W.heap.size, 0, none⟩ : Addr).add 0 = ⟨W.heap.size, 0, none⟩ from rfl]
  simp [Dk.ln]
  omega
theorem intsPick1 (w : World) (x : Int) (hx : -9223372036854775808 ≤ x ∧ x ≤ 9223372036854775807) (cs : Array Value) (e : TypeId) (fr : Nat × Nat) (hc : #[Value.int .i64 x] = cs) : IntsArg (w.alloc (.cells cs e fr)) (some ⟨w.heap.size, 0, none⟩) 1 [x] := by
  subst hc
  refine ⟨by simp, by omega, fun h => (by cases h), fun j hj => ⟨w.heap.size, 0, rfl, ?_⟩, fun z hz => ?_⟩
  · rw [World.cell?_alloc_mark]
    match j, hj with
    | 0, _ => rfl
  · simp at hz
    subst hz
    exact hx
theorem intsPick3 (w : World) (cs : Array Value) (e : TypeId) (fr : Nat × Nat) (hc : #[Value.int .i64 7, Value.int .i64 7, Value.int .i64 7] = cs) : IntsArg (w.alloc (.cells cs e fr)) (some ⟨w.heap.size, 0, none⟩) 3 [7, 7, 7] := by
  subst hc
  refine ⟨by simp, by omega, fun h => (by cases h), fun j hj => ⟨w.heap.size, 0, rfl, ?_⟩, fun z hz => ?_⟩
  · rw [World.cell?_alloc_mark]
    match j, hj with
    | 0, _ => rfl
    | 1, _ => rfl
    | 2, _ => rfl
  · simp at hz
    subst hz
    omega

set_option maxRecDepth 100000 in
set_option maxHeartbeats 4000000 in
theorem names_any (w : World) (p : Nat → Addr) (hsd : SentsD w p) (Az : Option Addr) (cz nz : Nat) (zs : List Int) (hnz : zs.length = nz) (hz : IntsArg w Az cz zs) (pk : Int) (hpk : -9223372036854775808 ≤ pk ∧ pk ≤ 9223372036854775807) :
    Calls Tryd.prog 3 #[.slice Az nz cz, .int .i64 pk] w fun e w' => e = .returned (.bool true) ∧ Below w.heap.size w w' := by
  have HFI := hide (first_any w p hsd)
  have HSD := hide hsd
  have HZ := hide hz
  have HNZ := hide hnz
  clear hsd hz hnz
  by_cases lz : 20 < nz
  · go_enter Tryd.func3, Tryd.ntmps3
    go_wp2_with (go_at_call 8; refine HFI.out.mono ?_; rintro e w1 ⟨rfl, hb1⟩; have HB1 := hide hb1; clear hb1)
    go_ret
    exact ⟨rfl, HB1.out⟩
  have HNW := hide (fun W => new_sessS 100 W W (Below.refl _ _) (by omega) (by omega))
  go_enter Tryd.func3, Tryd.ntmps3
  go_upto_region 9 with (first
    | (go_at_call 8; refine HFI.out.mono ?_; rintro e w1 ⟨rfl, hb1⟩; have HB1 := hide hb1; have HAZ := hide (HZ.out.below hb1 (Nat.le_refl _)); have HD1 := hide (HSD.out.below hb1); clear hb1)
    | (go_at_call 9; refine (HNW.out w1).mono ?_; rintro e w2 ⟨Bd, rfl, h2, -⟩; generalize hS0 : (fun k => w1.heap.size ≤ k ∧ k < w2.heap.size) = S0 at h2; have H2 := hide h2; clear h2 hS0)
    | fail)
  go_cut [8] from 118 (fun v wc => StRow w1.heap.size S0 wc v [] ∧ wc = w2)
  case first =>
    go_wp2_with fail
    go_meet
    exact ⟨StRow.nil _ _ _, rfl⟩
  case rest =>
  obtain ⟨hst0, rfl⟩ := hcut
  have HS0 := hide hst0
  clear hst0
  go_wp2_with (first
    | (go_at_call 10; refine (H2.out.list (by omega)).mono ?_; rintro e w3 ⟨lv, l, rfl, hl, ho, hb⟩; obtain ⟨Al, cl, rfl, -⟩ := ho.reads; have HL := hide (Dk.Lines.new l hl); have HLV := hide (OutT.new ho fun k hk => (H2.out.lo k hk).2); have H3 := hide (H2.out.grow hb); have HS3 := hide (HS0.out.below hb); clear hl ho hb)
    | (have _t := H3; at_builtin; refine wpList_appS (w := w3.alloc _) rfl (.tmp 36) (.tmp 39) rfl w1.heap.size S0 _ [] rfl (HS3.out.below (balloc (Below.refl _ _) _)) (.slice Al l.length cl) l (HLV.out.below (balloc (Below.refl _ _) _)) ⟨w3.heap.size, 0, none⟩ rfl (by simp [Addr.add]) (by simp) (fun k hk => by have := (H3.out.lo k hk).2; rw [World.size_alloc]; omega) (by have := H3.out.below.size; rw [World.size_alloc]; omega) ?_; intro v4 w4 hst hg hr; have HS4 := hide hst; have H4 := hide ((H3.out.grow (balloc (Below.refl _ _) _)).but hg hr); clear hst hg hr H3)
    | fail)
  clear HNW HFI H2 HLV
  go_loopw [8, 9] (fun v i wr => ∃ (k : Nat) (s : Dk.St) (since : List Dk.Mv) (sts : List (List Dk.Nm)) (S : Nat → Prop), k ≤ nz ∧ i = .int .i64 k ∧ Dk.Hist s since ∧ Dk.Lines since sts ∧ sts.length ≤ k + 1 ∧ SessS S w1 k Bd s wr ∧ StRow w1.heap.size S wr v sts) (fun _ i _ => nz - (intOf i).toNat)
  case atStart => exact ⟨0, _, [], [l], S0, by omega, rfl, Dk.Hist.new, HL.out, by simp, H4.out, HS4.out⟩
  case round =>
    obtain ⟨k, s, since, sts, S, hk, rfl, hh, hli, hsl, hr, hst⟩ := hrel
    have HR := hide hr
    have HH := hide hh
    have HLI := hide hli
    have HST := hide hst
    clear hr hh hli hst HS4 H4 HL
    by_cases hlt : k < nz
    · obtain ⟨bz, oz, rfl, hcell⟩ := (HAZ.out.below HR.out.below (Nat.le_refl _)).get k (by rw [HNZ.out]; exact hlt)
      have hfit := HAZ.out.fit (zs.getD k 0) (by
        have h1 : k < zs.length := by rw [HNZ.out]; exact hlt
        rw [List.getD_eq_getElem?_getD, List.getElem?_eq_getElem h1, Option.getD_some]
        exact List.getElem_mem _)
      generalize zs.getD k 0 = z at *
      obtain ⟨hq5, hq25⟩ := tdiv_in z hfit
      have l1 : num z 5 < 5 := num_lt z 5 (by omega)
      have l2 : num (z.tdiv 5) 5 < 5 := num_lt _ 5 (by omega)
      have l3 : num (z.tdiv 25) 3 < 3 := num_lt _ 3 (by omega)
      obtain ⟨N1, hN1⟩ : ∃ N, num z 5 = N := ⟨_, rfl⟩
      obtain ⟨N2, hN2⟩ : ∃ N, num (z.tdiv 5) 5 = N := ⟨_, rfl⟩
      obtain ⟨N3, hN3⟩ : ∃ N, num (z.tdiv 25) 3 = N := ⟨_, rfl⟩
      rw [hN1] at l1
      rw [hN2] at l2
      rw [hN3] at l3
      have HN1 := hide hN1
      have HN2 := hide hN2
      have HN3 := hide hN3
      clear hN1 hN2 hN3
      have hblk := World.block_lt_of_cell? wr _ hcell
      have hcell2 : ∀ o, (wr.alloc o).cell? ⟨bz, oz + k, none⟩ = some (.int .i64 z) := fun o => (World.cell?_alloc_lt wr o ⟨bz, oz + k, none⟩ hblk).trans hcell
      have hcell3 : ∀ o o', ((wr.alloc o).alloc o').cell? ⟨bz, oz + k, none⟩ = some (.int .i64 z) := fun o o' => (World.cell?_alloc_lt (wr.alloc o) o' ⟨bz, oz + k, none⟩ (by simp; exact Nat.lt_succ_of_lt hblk)).trans (hcell2 o)
      have hc1 := fun t => ln_conv N1 l1 wr t
      have hc2 : ∀ o t, (convert 33 9 (.slice (some ⟨wr.heap.size + 1, 0, none⟩) 1 1)).run Tryd.prog ((wr.alloc o).alloc (.cells #[.int .u8 (97 + (N2 : Int))] t)) = .ok (encStr (Dk.ln N2)) ((wr.alloc o).alloc (.cells #[.int .u8 (97 + (N2 : Int))] t)) := fun o t => by
        have h := ln_conv N2 l2 (wr.alloc o) t
        simpa using h
      have hp1 := HR.out.below.size
      obtain rfl | rfl | rfl : N3 = 0 ∨ N3 = 1 ∨ N3 = 2 := by omega
      · rcases (HH.out.create (Dk.ln N1) (ln_valid N1 l1) (wr.heap.size + 2)) with e1 | ⟨s', m, e1, hh'⟩
        · have E1 := hide e1
          clear e1
          have hne := eql_nil (p 7)
          simp only [errV] at hne
          go_wp2_with (first
          | (go_at_call 11; (with_reducible refine (num_at z 5 5 _ rfl (by omega) (by omega) hfit.1 hfit.2).mono ?_); rintro e wr' ⟨rfl, rfl⟩; rw [HN1.out])
          | (go_at_call 11; (with_reducible refine (num_at (z.tdiv 5) 5 5 _ rfl (by omega) (by omega) hq5.1 hq5.2).mono ?_); rintro e wr' ⟨rfl, rfl⟩; rw [HN2.out])
          | (go_at_call 11; (with_reducible refine (num_at (z.tdiv 25) 3 3 _ rfl (by omega) (by omega) hq25.1 hq25.2).mono ?_); rintro e wr' ⟨rfl, rfl⟩; rw [HN3.out])
          | (go_at_call 12; refine ((HR.out.grow (balloc (balloc (Below.refl _ _) _) _)).create p HD1.out (by omega) (Dk.ln N1) (by simp [Dk.ln]) (wr.heap.size + 2) (by simp)).mono ?_; rintro e w6 ⟨rfl, h6, hc6⟩; rw [E1.out] at h6 ⊢; have H6 := hide h6; have HS6 := hide ((HST.out.below (balloc (balloc (Below.refl _ _) _) _)).chg hc6); clear h6 hc6; simp only [errR, errV])
          | fail)
          go_roundw
          case rel => exact ⟨k + 1, s, since, sts, _, by omega, by go_num, HH.out, HLI.out, by omega, H6.out, HS6.out⟩
          case measure => simp [intOf]; omega
        · have E1 := hide e1
          have HH' := hide hh'
          clear e1 hh'
          have hlen := HLI.out.len
          go_wp2_with (first
          | (go_at_call 11; (with_reducible refine (num_at z 5 5 _ rfl (by omega) (by omega) hfit.1 hfit.2).mono ?_); rintro e wr' ⟨rfl, rfl⟩; rw [HN1.out])
          | (go_at_call 11; (with_reducible refine (num_at (z.tdiv 5) 5 5 _ rfl (by omega) (by omega) hq5.1 hq5.2).mono ?_); rintro e wr' ⟨rfl, rfl⟩; rw [HN2.out])
          | (go_at_call 11; (with_reducible refine (num_at (z.tdiv 25) 3 3 _ rfl (by omega) (by omega) hq25.1 hq25.2).mono ?_); rintro e wr' ⟨rfl, rfl⟩; rw [HN3.out])
          | (go_at_call 12; refine ((HR.out.grow (balloc (balloc (Below.refl _ _) _) _)).create p HD1.out (by omega) (Dk.ln N1) (by simp [Dk.ln]) (wr.heap.size + 2) (by simp)).mono ?_; rintro e w6 ⟨rfl, h6, hc6⟩; rw [E1.out] at h6 ⊢; have hst6 := (HST.out.below (balloc (balloc (Below.refl _ _) _) _)).chg hc6; generalize Up S _ w6 = S6 at h6 hst6; have H6 := hide h6; have HS6 := hide hst6; clear h6 hc6 hst6; simp only [errR])
          | (go_at_call 10; refine (H6.out.list (by omega)).mono ?_; rintro e w7 ⟨lv, l', rfl, hl, ho, hb⟩; obtain ⟨Al, cl, rfl, -⟩ := ho.reads; have HLN := hide (HLI.out.snoc m l' (by obtain ⟨c0, v0⟩ := HH'.out.v; rw [← v0.names]; exact hl)); have HLV := hide (OutT.new ho fun k hk => (H6.out.lo k hk).2); have H7 := hide (H6.out.grow hb); have HS7 := hide (HS6.out.below hb); clear hl ho hb)
          | (have _t := H7; at_builtin; refine wpList_appS (w := w7.alloc _) rfl (.tmp 88) (.tmp 91) rfl w1.heap.size S6 _ sts rfl (HS7.out.below (balloc (Below.refl _ _) _)) (.slice Al l'.length cl) l' (HLV.out.below (balloc (Below.refl _ _) _)) ⟨w7.heap.size, 0, none⟩ rfl (by simp [Addr.add]) (by omega) (fun k hk => by have := (H7.out.lo k hk).2; rw [World.size_alloc]; omega) (by have := H7.out.below.size; rw [World.size_alloc]; omega) ?_; intro v8 w8 hst8 hg8 hr8; have HS8 := hide hst8; have H8 := hide ((H7.out.grow (balloc (Below.refl _ _) _)).but hg8 hr8); clear hst8 hg8 hr8 H7)
          | fail)
          go_roundw
          case rel => exact ⟨k + 1, s', since ++ [m], sts ++ [l'], S6, by omega, by go_num, HH'.out, HLN.out, by simp; omega, H8.out, HS8.out⟩
          case measure => simp [intOf]; omega
      · rcases (HH.out.remove (Dk.ln N1) (ln_ne N1)) with e1 | ⟨s', m, e1, hh'⟩
        · have E1 := hide e1
          clear e1
          have hne := eql_nil (p 6)
          simp only [errV] at hne
          go_wp2_with (first
          | (go_at_call 11; (with_reducible refine (num_at z 5 5 _ rfl (by omega) (by omega) hfit.1 hfit.2).mono ?_); rintro e wr' ⟨rfl, rfl⟩; rw [HN1.out])
          | (go_at_call 11; (with_reducible refine (num_at (z.tdiv 5) 5 5 _ rfl (by omega) (by omega) hq5.1 hq5.2).mono ?_); rintro e wr' ⟨rfl, rfl⟩; rw [HN2.out])
          | (go_at_call 11; (with_reducible refine (num_at (z.tdiv 25) 3 3 _ rfl (by omega) (by omega) hq25.1 hq25.2).mono ?_); rintro e wr' ⟨rfl, rfl⟩; rw [HN3.out])
          | (go_at_call 13; refine ((HR.out.grow (balloc (balloc (Below.refl _ _) _) _)).remove p HD1.out (by omega) (Dk.ln N1) (by simp [Dk.ln])).mono ?_; rintro e w6 ⟨rfl, h6, hc6⟩; rw [E1.out] at h6 ⊢; have H6 := hide h6; have HS6 := hide ((HST.out.below (balloc (balloc (Below.refl _ _) _) _)).chg hc6); clear h6 hc6; simp only [errR, errV])
          | fail)
          go_roundw
          case rel => exact ⟨k + 1, s, since, sts, _, by omega, by go_num, HH.out, HLI.out, by omega, H6.out, HS6.out⟩
          case measure => simp [intOf]; omega
        · have E1 := hide e1
          have HH' := hide hh'
          clear e1 hh'
          have hlen := HLI.out.len
          go_wp2_with (first
          | (go_at_call 11; (with_reducible refine (num_at z 5 5 _ rfl (by omega) (by omega) hfit.1 hfit.2).mono ?_); rintro e wr' ⟨rfl, rfl⟩; rw [HN1.out])
          | (go_at_call 11; (with_reducible refine (num_at (z.tdiv 5) 5 5 _ rfl (by omega) (by omega) hq5.1 hq5.2).mono ?_); rintro e wr' ⟨rfl, rfl⟩; rw [HN2.out])
          | (go_at_call 11; (with_reducible refine (num_at (z.tdiv 25) 3 3 _ rfl (by omega) (by omega) hq25.1 hq25.2).mono ?_); rintro e wr' ⟨rfl, rfl⟩; rw [HN3.out])
          | (go_at_call 13; refine ((HR.out.grow (balloc (balloc (Below.refl _ _) _) _)).remove p HD1.out (by omega) (Dk.ln N1) (by simp [Dk.ln])).mono ?_; rintro e w6 ⟨rfl, h6, hc6⟩; rw [E1.out] at h6 ⊢; have hst6 := (HST.out.below (balloc (balloc (Below.refl _ _) _) _)).chg hc6; generalize Up S _ w6 = S6 at h6 hst6; have H6 := hide h6; have HS6 := hide hst6; clear h6 hc6 hst6; simp only [errR])
          | (go_at_call 10; refine (H6.out.list (by omega)).mono ?_; rintro e w7 ⟨lv, l', rfl, hl, ho, hb⟩; obtain ⟨Al, cl, rfl, -⟩ := ho.reads; have HLN := hide (HLI.out.snoc m l' (by obtain ⟨c0, v0⟩ := HH'.out.v; rw [← v0.names]; exact hl)); have HLV := hide (OutT.new ho fun k hk => (H6.out.lo k hk).2); have H7 := hide (H6.out.grow hb); have HS7 := hide (HS6.out.below hb); clear hl ho hb)
          | (have _t := H7; at_builtin; refine wpList_appS (w := w7.alloc _) rfl (.tmp 88) (.tmp 91) rfl w1.heap.size S6 _ sts rfl (HS7.out.below (balloc (Below.refl _ _) _)) (.slice Al l'.length cl) l' (HLV.out.below (balloc (Below.refl _ _) _)) ⟨w7.heap.size, 0, none⟩ rfl (by simp [Addr.add]) (by omega) (fun k hk => by have := (H7.out.lo k hk).2; rw [World.size_alloc]; omega) (by have := H7.out.below.size; rw [World.size_alloc]; omega) ?_; intro v8 w8 hst8 hg8 hr8; have HS8 := hide hst8; have H8 := hide ((H7.out.grow (balloc (Below.refl _ _) _)).but hg8 hr8); clear hst8 hg8 hr8 H7)
          | fail)
          go_roundw
          case rel => exact ⟨k + 1, s', since ++ [m], sts ++ [l'], S6, by omega, by go_num, HH'.out, HLN.out, by simp; omega, H8.out, HS8.out⟩
          case measure => simp [intOf]; omega
      · rcases (HH.out.rename (Dk.ln N1) (Dk.ln N2) (ln_ne N1) (ln_valid N2 l2)) with e1 | ⟨s', m, e1, hh'⟩
        · have E1 := hide e1
          clear e1
          have hne := eql_nil (p 6)
          simp only [errV] at hne
          go_wp2_with (first
          | (go_at_call 11; (with_reducible refine (num_at z 5 5 _ rfl (by omega) (by omega) hfit.1 hfit.2).mono ?_); rintro e wr' ⟨rfl, rfl⟩; rw [HN1.out])
          | (go_at_call 11; (with_reducible refine (num_at (z.tdiv 5) 5 5 _ rfl (by omega) (by omega) hq5.1 hq5.2).mono ?_); rintro e wr' ⟨rfl, rfl⟩; rw [HN2.out])
          | (go_at_call 11; (with_reducible refine (num_at (z.tdiv 25) 3 3 _ rfl (by omega) (by omega) hq25.1 hq25.2).mono ?_); rintro e wr' ⟨rfl, rfl⟩; rw [HN3.out])
          | (go_at_call 14; refine ((HR.out.grow (balloc (balloc (Below.refl _ _) _) _)).rename p HD1.out (by omega) (Dk.ln N1) (Dk.ln N2) (by simp [Dk.ln]) (by simp [Dk.ln])).mono ?_; rintro e w6 ⟨rfl, h6, hc6⟩; rw [E1.out] at h6 ⊢; have H6 := hide h6; have HS6 := hide ((HST.out.below (balloc (balloc (Below.refl _ _) _) _)).chg hc6); clear h6 hc6; simp only [errR, errV])
          | fail)
          go_roundw
          case rel => exact ⟨k + 1, s, since, sts, _, by omega, by go_num, HH.out, HLI.out, by omega, H6.out, HS6.out⟩
          case measure => simp [intOf]; omega
        · have E1 := hide e1
          have HH' := hide hh'
          clear e1 hh'
          have hlen := HLI.out.len
          go_wp2_with (first
          | (go_at_call 11; (with_reducible refine (num_at z 5 5 _ rfl (by omega) (by omega) hfit.1 hfit.2).mono ?_); rintro e wr' ⟨rfl, rfl⟩; rw [HN1.out])
          | (go_at_call 11; (with_reducible refine (num_at (z.tdiv 5) 5 5 _ rfl (by omega) (by omega) hq5.1 hq5.2).mono ?_); rintro e wr' ⟨rfl, rfl⟩; rw [HN2.out])
          | (go_at_call 11; (with_reducible refine (num_at (z.tdiv 25) 3 3 _ rfl (by omega) (by omega) hq25.1 hq25.2).mono ?_); rintro e wr' ⟨rfl, rfl⟩; rw [HN3.out])
          | (go_at_call 14; refine ((HR.out.grow (balloc (balloc (Below.refl _ _) _) _)).rename p HD1.out (by omega) (Dk.ln N1) (Dk.ln N2) (by simp [Dk.ln]) (by simp [Dk.ln])).mono ?_; rintro e w6 ⟨rfl, h6, hc6⟩; rw [E1.out] at h6 ⊢; have hst6 := (HST.out.below (balloc (balloc (Below.refl _ _) _) _)).chg hc6; generalize Up S _ w6 = S6 at h6 hst6; have H6 := hide h6; have HS6 := hide hst6; clear h6 hc6 hst6; simp only [errR])
          | (go_at_call 10; refine (H6.out.list (by omega)).mono ?_; rintro e w7 ⟨lv, l', rfl, hl, ho, hb⟩; obtain ⟨Al, cl, rfl, -⟩ := ho.reads; have HLN := hide (HLI.out.snoc m l' (by obtain ⟨c0, v0⟩ := HH'.out.v; rw [← v0.names]; exact hl)); have HLV := hide (OutT.new ho fun k hk => (H6.out.lo k hk).2); have H7 := hide (H6.out.grow hb); have HS7 := hide (HS6.out.below hb); clear hl ho hb)
          | (have _t := H7; at_builtin; refine wpList_appS (w := w7.alloc _) rfl (.tmp 88) (.tmp 91) rfl w1.heap.size S6 _ sts rfl (HS7.out.below (balloc (Below.refl _ _) _)) (.slice Al l'.length cl) l' (HLV.out.below (balloc (Below.refl _ _) _)) ⟨w7.heap.size, 0, none⟩ rfl (by simp [Addr.add]) (by omega) (fun k hk => by have := (H7.out.lo k hk).2; rw [World.size_alloc]; omega) (by have := H7.out.below.size; rw [World.size_alloc]; omega) ?_; intro v8 w8 hst8 hg8 hr8; have HS8 := hide hst8; have H8 := hide ((H7.out.grow (balloc (Below.refl _ _) _)).but hg8 hr8); clear hst8 hg8 hr8 H7)
          | fail)
          go_roundw
          case rel => exact ⟨k + 1, s', since ++ [m], sts ++ [l'], S6, by omega, by go_num, HH'.out, HLN.out, by simp; omega, H8.out, HS8.out⟩
          case measure => simp [intOf]; omega
    · obtain rfl : k = nz := by omega
      have hlen := HLI.out.len
      obtain ⟨g, cap, rfl, hcp1, hcp2, hget⟩ := HST.out.get (by omega)
      have HG := hide hget
      obtain ⟨L, hL⟩ : ∃ L, L = sts.length := ⟨_, rfl⟩
      rw [← hL] at hlen hcp1 hsl ⊢
      have HLL := hide hL
      clear hget hL
      have hm := num_lt pk L (by omega)
      obtain ⟨m, hmm⟩ : ∃ m, num pk L = m := ⟨_, rfl⟩
      rw [hmm] at hm
      have HMM := hide hmm
      have HLN := hide hlen
      clear hmm hlen
      go_wp2_with (first
        | (go_at_call 11; (with_reducible refine (num_at pk L L _ rfl (by omega) (by omega) hpk.1 hpk.2).mono ?_); rintro e wr ⟨rfl, rfl⟩; rw [HMM.out])
        | fail)
      refine ((HR.out.grow (balloc (Below.refl _ _) _)).crash (by omega) _ _ _ [pk] (intsPick1 wr pk hpk _ _ _ rfl) rfl (fun x o e _ => by cases e; exact ⟨fun hk => by have := (HR.out.lo _ hk).2; omega, by simp⟩)).mono ?_
      rintro e w5 ⟨rfl, ys, ⟨hy, hyr⟩, h5, hc5⟩
      have hst5 := (HST.out.below (balloc (Below.refl _ _) _)).chg hc5
      generalize Up S _ w5 = S5 at h5 hst5
      obtain ⟨m', hm1, hm2, hnm, hnext⟩ := HH.out.crash pk ys hy hyr
      obtain rfl : m = m' := by rw [hm2, ← HMM.out, HLN.out]
      have HL5 := hide (HLI.out.at_ m hm1)
      obtain ⟨T, hT⟩ : ∃ T, T = sts.getD m [] := ⟨_, rfl⟩
      rw [← hT] at HL5
      have HT := hide hT
      have HNM := hide hnm
      have HNX := hide hnext
      have H5 := hide h5
      have HS5 := hide hst5
      clear hy hyr h5 hc5 hst5 hm1 hm2 hnm hnext hT HLI
      generalize s.crash [pk] ys = s5 at *
      go_wp2_with (first
        | (go_at_call 10; refine (H5.out.list (by omega)).mono ?_; rintro e w6 ⟨lv, l, rfl, hl, ho, hb⟩; rw [HNM.out] at hl; obtain rfl := (hl.one HL5.out).symm; obtain ⟨An, cn, rfl, -, -, hc1', hc2'⟩ := ho.reads; have hbT : T.length ≤ 9223372036854775807 := Nat.le_trans hc1' hc2'; have HNW := hide (OutT.new ho fun k hk => (H5.out.lo k hk).2); have H6 := hide (H5.out.grow hb); have HS6 := hide (HS5.out.below hb); clear hl ho hb)
        | fail)
      refine ((H6.out.grow (balloc (Below.refl _ _) _)).crash (by omega) _ _ _ [7, 7, 7] (intsPick3 w6 _ _ _ rfl) rfl (fun x o e _ => by cases e; exact ⟨fun hk => by have := (H6.out.lo _ hk).2; omega, by simp⟩)).mono ?_
      rintro e w7 ⟨rfl, zs', ⟨hz', hzr⟩, h7, hc7⟩
      have hst7 := (HS6.out.below (balloc (Below.refl _ _) _)).chg hc7
      have hnw7 := (HNW.out.below (balloc (Below.refl _ _) _)).chg hc7
      generalize Up S5 _ w7 = S7 at h7 hst7 hnw7
      have HN7 := hide (HNX.out [7, 7, 7] zs' hz' hzr)
      obtain ⟨g2, cap2, e2, -, -, hget2⟩ := hst7.get (by rw [← HLL.out]; omega)
      rw [← HLL.out] at e2 hget2
      cases e2
      obtain ⟨As, cs, hcs, hrs⟩ := hget2 m hm
      rw [← HT.out] at hcs hrs
      have HRS := hide hrs
      have H7 := hide h7
      obtain ⟨An', cn', e3, hrn, -⟩ := hnw7.own.reads
      cases e3
      have HRN := hide hrn
      clear hz' hzr h7 hc7 hst7 hnw7 hget2 hrs hrn HNX HNM HS5 HS6 HNW
      generalize s5.crash [7, 7, 7] zs' = s7 at *
      go_wp2_with (first
        | (go_at_call 10; refine (H8.out.list (by omega)).mono ?_; rintro e w9 ⟨lv, l, rfl, hl, ho, hb⟩; rw [HN7.out] at hl; obtain rfl := (hl.one HL5.out).symm; obtain ⟨Al, cl, rfl, hrl, -⟩ := ho.reads; have HRL := hide hrl; have HRN9 := hide (HRN8.out.below hb (Nat.le_refl _)); have H9 := hide (H8.out.grow hb); clear hl ho hb hrl)
        | (have _t := H9; go_at_call 16; refine (sameTexts_any Al An cl cn _ _ T T w9 rfl rfl hbT hbT HRL.out HRN9.out).mono ?_; rintro e wz ⟨rfl, q, hq⟩; rw [decide_eq_true rfl]; have HZ' := hide (show Below w1.heap.size w1 wz by rw [hq]; exact below_drewN H9.out.below q); clear hq)
        | (go_at_call 16; go_loud (refine (sameTexts_any An As cn cs _ _ T T w7 rfl rfl hbT hbT HRN.out HRS.out).mono ?_); rintro e w8 ⟨rfl, q, hq⟩; rw [decide_eq_true rfl]; have hb8 : Below w7.heap.size w7 w8 := (by rw [hq]; exact below_drewN (Below.refl _ _) q); have H8 := hide (H7.out.grow hb8); have HRN8 := hide (HRN.out.below hb8 (Nat.le_refl _)); clear hq hb8)
        | fail)
      go_ret
      exact ⟨rfl, HB1.out.trans (HZ'.out.mono HB1.out.size)⟩
end Go.Proofs.YtnjcngmmgceijaaDoor
