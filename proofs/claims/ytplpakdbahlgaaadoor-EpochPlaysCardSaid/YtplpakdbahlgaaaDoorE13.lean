/-
  The reference's At, End, CutEnd.
  The reference's CutStart and Span.
  The reference's Span.
  The reference's ValidPairs.
  The reference's Begin.
  Has, plain: a part is one pair by pair.
  The reference's Has.
-/
import Derived.Test.YtplpakdbahlgaaaDoorE8
import Derived.Test.YtplpakdbahlgaaaDoorE3
import Derived.Deep.LoopGhost
namespace Go.Proofs.YtplpakdbahlgaaaDoor
open Go.RowKit

/-- A row that stays: what it holds at each later world. -/
theorem PrAt.stays {w : World} {A : Option Addr} {c : Nat} {l : List Ep.Pr} (h : PrAt w A c l) : ∀ V, Below w.heap.size w V → ∀ k, k < l.length → ∃ g f, A = some ⟨g, f, none⟩ ∧ V.cell? ⟨g, f + k * 2, none⟩ = some (.int .i64 (Ep.pr l k).ep) ∧ V.cell? ⟨g, f + k * 2 + 1, none⟩ = some (.int .i64 (Ep.pr l k).st) := fun V hb k hk => by
  obtain ⟨g, f, e, _, k1, k2⟩ := (h.below hb).at_ k hk
  exact ⟨g, f, e, k1, k2⟩

set_option maxRecDepth 100000 in
set_option maxHeartbeats 1000000 in
theorem refAt_any (A : Option Addr) (c n : Nat) (l : List Ep.Pr) (o : Int) (w : World) (hn : l.length = n) (hok : Ep.Ok l) (h : PrAt w A c l) :
    Calls Tryd.prog 48 #[.slice A n c, .int .i64 o] w fun e w' => e = .returned (.tuple #[.int .i64 (Ep.at_ l o).1, .bool (Ep.at_ l o).2]) ∧ Below w.heap.size w w' := by
  have HAT := hide h.stays
  have HU := hide (fun i hi => Ep.upto_iff hok.rise o (i := i) hi)
  have hul := Ep.upto_le l o
  have hle := hn ▸ h.le
  have hlen := hok.len
  rw [hn] at HAT HU hul hlen
  have HR : Hid (∀ x : Int × Bool, (x.1 = if min n (Ep.upto l o) = 0 then 0 else (Ep.pr l (min n (Ep.upto l o) - 1)).ep) → x.2 = decide (0 < min n (Ep.upto l o)) → Ep.at_ l o = x) := hide fun x h1 h2 => by
    rw [Nat.min_eq_right hul] at h1 h2
    unfold Ep.at_
    by_cases h0 : Ep.upto l o = 0
    · rw [if_pos h0] at h1 ⊢
      rw [h0, decide_eq_false (by omega)] at h2
      exact Prod.ext h1.symm h2.symm
    · rw [if_neg h0] at h1 ⊢
      rw [decide_eq_true (by omega)] at h2
      exact Prod.ext h1.symm h2.symm
  generalize Ep.upto l o = u at *
  generalize Ep.at_ l o = res at *
  clear hn hok h
  go_enter Tryd.func48, Tryd.ntmps48
  go_wp2_with fail
  go_loopw [6, 7, 8] (fun ev bv iv wr => ∃ (k : Nat) (e : Int) (b : Bool), k ≤ n ∧ iv = .int .i64 k ∧ ev = .int .i64 e ∧ bv = .bool b ∧ (e = if min k u = 0 then 0 else (Ep.pr l (min k u - 1)).ep) ∧ b = decide (0 < min k u) ∧ Below w.heap.size w wr) (fun _ _ iv _ => n - (intOf iv).toNat)
  case atStart => exact ⟨0, 0, false, Nat.zero_le _, rfl, rfl, rfl, by simp, by simp, Below.refl _ _⟩
  case round =>
    obtain ⟨k, e, b, hk, rfl, rfl, rfl, he, hb, hbel⟩ := hrel
    have HE := hide he
    have HBB := hide hb
    have HB := hide hbel
    by_cases hlt : k < n
    · have d1 : decide ((k : Int) < n) = true := decide_eq_true (by omega)
      obtain ⟨g, f, rfl, k0, k1⟩ := HAT.out _ hbel k hlt
      have hiff := HU.out k hlt
      obtain ⟨q, hq⟩ : ∃ q, q = Ep.pr l k := ⟨_, rfl⟩
      rw [← hq] at k0 k1 hiff
      have HQ := hide hq
      obtain ⟨pe, ps⟩ := q
      simp only at k0 k1 hiff
      by_cases hku : k < u
      · have d2 : decide (ps ≤ o) = true := decide_eq_true (hiff.2 hku)
        clear he hb hbel hiff hq
        go_wp2_with fail
        go_roundw
        case rel => exact ⟨k + 1, pe, true, by omega, by go_num, rfl, rfl, by rw [if_neg (by omega), show min (k + 1) u - 1 = k by omega, ← HQ.out], by rw [decide_eq_true (by omega)], HB.out⟩
        case measure => simp [intOf]; omega
      · have d2 : decide (ps ≤ o) = false := decide_eq_false (fun x => hku (hiff.1 x))
        clear he hb hbel hiff hq
        go_wp2_with fail
        go_roundw
        case rel => exact ⟨k + 1, e, b, by omega, by go_num, rfl, rfl, by rw [show min (k + 1) u = min k u by omega]; exact HE.out, by rw [show min (k + 1) u = min k u by omega]; exact HBB.out, HB.out⟩
        case measure => simp [intOf]; omega
    · obtain rfl : k = n := by omega
      have d1 : decide ((k : Int) < k) = false := decide_eq_false (by omega)
      clear he hb hbel
      go_wp2_with fail
      go_ret2
      rw [HR.out (e, b) HE.out HBB.out]
      exact ⟨rfl, HB.out⟩

set_option maxRecDepth 100000 in
set_option maxHeartbeats 1000000 in
theorem refEnd_any (A : Option Addr) (c n : Nat) (l : List Ep.Pr) (o z : Int) (w : World) (hn : l.length = n) (hok : Ep.Ok l) (h : PrAt w A c l) :
    Calls Tryd.prog 49 #[.slice A n c, .int .i64 o, .int .i64 z] w fun e w' => e = .returned (.tuple #[.int .i64 (Ep.end_ l o z).1, .int .i64 (Ep.end_ l o z).2.1, .bool (Ep.end_ l o z).2.2]) ∧ Below w.heap.size w w' := by
  have HAT := hide h.stays
  have HU := hide (fun i hi => Ep.elder_iff hok.rise o (i := i) hi)
  have hul := Ep.elder_le l o
  have hle := hn ▸ h.le
  have hlen := hok.len
  have HR0 : Hid (Ep.elder l o = 0 → Ep.end_ l o z = (0, 0, false)) := hide fun h0 => if_pos h0
  have HR1 : Hid (∀ k, Ep.elder l o = k + 1 → k + 1 < n → Ep.end_ l o z = ((Ep.pr l k).ep, (Ep.pr l (k + 1)).st, true)) := hide fun k h0 h1 => by
    unfold Ep.end_
    rw [if_neg (by omega), h0, if_pos (by omega)]
    rfl
  have HR2 : Hid (∀ k, Ep.elder l o = k + 1 → ¬ k + 1 < n → Ep.end_ l o z = ((Ep.pr l k).ep, z, true)) := hide fun k h0 h1 => by
    unfold Ep.end_
    rw [if_neg (by omega), h0, if_neg (by omega)]
    rfl
  rw [hn] at HAT HU hul hlen
  generalize Ep.elder l o = u at *
  generalize Ep.end_ l o z = res at *
  clear hn hok h
  go_enter Tryd.func49, Tryd.ntmps49
  go_wp2_with fail
  go_loopw [9, 10] (fun jv iv wr => ∃ k : Nat, k ≤ n ∧ iv = .int .i64 k ∧ jv = .int .i64 ((min k u : Nat) - 1 : Int) ∧ Below w.heap.size w wr) (fun _ iv _ => n - (intOf iv).toNat)
  case atStart => exact ⟨0, Nat.zero_le _, rfl, by simp, Below.refl _ _⟩
  case round =>
    obtain ⟨k, hk, rfl, rfl, hbel⟩ := hrel
    have HB := hide hbel
    by_cases hlt : k < n
    · have d1 : decide ((k : Int) < n) = true := decide_eq_true (by omega)
      obtain ⟨g, f, rfl, k0, k1⟩ := HAT.out _ hbel k hlt
      have hiff := HU.out k hlt
      generalize Ep.pr l k = q at *
      obtain ⟨pe, ps⟩ := q
      simp only at k0 k1 hiff
      by_cases hku : k < u
      · have d2 : decide (pe ≤ o) = true := decide_eq_true (hiff.2 hku)
        clear hbel hiff
        go_wp2_with fail
        go_roundw
        case rel => exact ⟨k + 1, by omega, by go_num, congrArg (Value.int IntKind.i64) (by omega), HB.out⟩
        case measure => simp [intOf]; omega
      · have d2 : decide (pe ≤ o) = false := decide_eq_false (fun x => hku (hiff.1 x))
        clear hbel hiff
        go_wp2_with fail
        go_roundw
        case rel => exact ⟨k + 1, by omega, by go_num, congrArg (Value.int IntKind.i64) (by omega), HB.out⟩
        case measure => simp [intOf]; omega
    · obtain rfl : k = n := by omega
      have d1 : decide ((k : Int) < k) = false := decide_eq_false (by omega)
      rw [Nat.min_eq_right hul]
      by_cases h0 : u = 0
      · subst h0
        have HQ := hide (HR0.out rfl)
        have d2 : decide (((0 : Nat) : Int) - 1 < 0) = true := rfl
        clear hbel
        go_wp2_with fail
        go_ret3
        rw [HQ.out]
        exact ⟨rfl, HB.out⟩
      · obtain ⟨j, rfl⟩ : ∃ j, u = j + 1 := ⟨u - 1, by omega⟩
        obtain ⟨g, f, rfl, k0, k1⟩ := HAT.out _ hbel j (by omega)
        have ej : (((j + 1 : Nat) : Int) - 1) = (j : Int) := by omega
        rw [ej]
        have d2 : decide ((j : Int) < 0) = false := decide_eq_false (by omega)
        have hw : IntKind.i64.wrap ((j : Int) + 1) = (j : Int) + 1 := by rw [IntKind.wrap_i64]; omega
        by_cases hj : j + 1 < k
        · have d3 : decide ((j : Int) + 1 < (k : Int)) = true := decide_eq_true (by omega)
          obtain ⟨g', f', e', -, k3⟩ := HAT.out _ hbel (j + 1) hj
          injection e' with e'
          injection e' with e1 e2
          subst e1 e2
          have HQ := hide (HR1.out j rfl hj)
          generalize (Ep.pr l j).ep = pe at *
          generalize (Ep.pr l (j + 1)).st = pq at *
          clear hbel ej k1
          go_wp2_with fail
          go_quiet (fail)
          go_wp2_with fail
          go_ret3
          rw [HQ.out]
          exact ⟨rfl, below_drewN HB.out _⟩
        · have d3 : decide ((j : Int) + 1 < (k : Int)) = false := decide_eq_false (by omega)
          have HQ := hide (HR2.out j rfl hj)
          generalize (Ep.pr l j).ep = pe at *
          clear hbel ej k1
          go_wp2_with fail
          go_ret3
          rw [HQ.out]
          exact ⟨rfl, HB.out⟩

set_option maxRecDepth 100000 in
set_option maxHeartbeats 1000000 in
theorem refCutEnd_any (A : Option Addr) (c n : Nat) (l : List Ep.Pr) (o : Int) (w : World) (hn : l.length = n) (hok : Ep.Ok l) (h : PrAt w A c l) :
    Calls Tryd.prog 20 #[.slice A n c, .int .i64 o] w fun e w' => ∃ v, e = .returned v ∧ OwnP w' w.heap.size v (Ep.cutEnd l o) ∧ Below w.heap.size w w' := by
  have HAT := hide h.stays
  have HU := hide (fun i hi => Ep.ahead_iff hok.rise o (i := i) hi)
  have hul := Ep.ahead_le l o
  have hle := hn ▸ h.le
  have hlen := hok.len
  have HRS : Hid (Ep.cutEnd l o = l.take (Ep.ahead l o)) := hide rfl
  have HT : Hid (∀ k, k < n → l.take (k + 1) = l.take k ++ [Ep.pr l k]) := hide fun k hk => Ep.take_succ (by omega)
  have HLK : Hid (∀ k, k ≤ n → (l.take k).length = k) := hide fun k hk => by rw [List.length_take]; omega
  rw [hn] at HAT HU hul hlen
  generalize Ep.ahead l o = u at *
  clear hn hok h
  go_enter Tryd.func20, Tryd.ntmps20
  go_wp2_with fail
  go_loopw [5, 6] (fun v i wr => ∃ k : Nat, k ≤ n ∧ i = .int .i64 k ∧ OwnP wr w.heap.size v (l.take (min k u)) ∧ Below w.heap.size w wr) (fun _ i _ => n - (intOf i).toNat)
  case atStart => exact ⟨0, Nat.zero_le _, rfl, by rw [Nat.zero_min]; exact World.ownsRow_nil _ _ _ _, Below.refl _ _⟩
  case round =>
    obtain ⟨k, hk, rfl, ho, hb⟩ := hrel
    have HO := hide ho
    have HB := hide hb
    by_cases hlt : k < n
    · obtain ⟨g, f, rfl, k0, k1⟩ := HAT.out _ hb k hlt
      have d1 : decide ((k : Int) < n) = true := decide_eq_true (by omega)
      have hiff := HU.out k hlt
      have HTK := hide (HT.out k hlt)
      generalize Ep.pr l k = q at *
      obtain ⟨pe, ps⟩ := q
      simp only at k0 k1 hiff
      by_cases hku : k < u
      · have d2 : decide (ps < o) = true := decide_eq_true (hiff.2 hku)
        have hmk : min k u = k := by omega
        rw [hmk] at HO
        have HOA : Hid (World.ownsRow (wr.alloc (.cells #[.int .i64 pe, .int .i64 ps] 59)) w.heap.size 59 2 u5 k ((l.take k).flatMap prCells)) := hide (by
          have := World.ownsRow.alloc HO.out (.cells #[.int .i64 pe, .int .i64 ps] 59)
          rwa [HLK.out k hk] at this)
        clear ho hb hiff hmk
        go_wp2_with (at_builtin; refine wpList_appG (w := wr.alloc _) rfl 22 59 2 16 _ (by kernel_rfl) pair_info rfl (by omega) (.tmp 20) (.tmp 25) rfl w.heap.size u5 k ((l.take k).flatMap prCells) rfl HOA.out ⟨wr.heap.size, 0, none⟩ 1 1 (prCells ⟨pe, ps⟩) rfl rfl (news2 (w := wr)) (prs_one [⟨pe, ps⟩]) (by simp [maxLen]; omega) (by omega) (by have := HB.out.size; simp; omega) ?_; intro v3 w3 ho3 hg3 hv3)
        have hbb : Below w.heap.size w w3 := (balloc HB.out _).grown hg3 (by have := HB.out.size; simp; omega) (fun g hg => (HOA.out.lt g hg).1)
        have hoo : OwnP w3 w.heap.size v3 (l.take (k + 1)) := by
          rw [HTK.out]
          unfold OwnP
          rw [List.length_append, HLK.out k hk, List.flatMap_append]
          exact ho3
        clear ho3 hg3 hv3
        have HB3 := hide hbb
        have HO3 := hide hoo
        clear hbb hoo
        go_wp2_with fail
        go_roundw
        case rel => exact ⟨k + 1, by omega, by go_num, by rw [show min (k + 1) u = k + 1 by omega]; exact HO3.out, HB3.out⟩
        case measure => simp [intOf]; omega
      · have d2 : decide (ps < o) = false := decide_eq_false (fun x => hku (hiff.1 x))
        clear ho hb hiff
        go_wp2_with fail
        go_roundw
        case rel => exact ⟨k + 1, by omega, by go_num, by rw [show min (k + 1) u = min k u by omega]; exact HO.out, HB.out⟩
        case measure => simp [intOf]; omega
    · obtain rfl : k = n := by omega
      have d1 : decide ((k : Int) < k) = false := decide_eq_false (by omega)
      clear ho hb
      go_wp2_with fail
      go_ret
      refine ⟨_, rfl, ?_, HB.out⟩
      rw [HRS.out]
      have := HO.out
      rwa [Nat.min_eq_right hul] at this
end Go.Proofs.YtplpakdbahlgaaaDoor

namespace Go.Proofs.YtplpakdbahlgaaaDoor
open Go.RowKit

namespace Ep
/-- What CutStart keeps, pair by pair. -/
theorem cutStart_at {l : List Pr} (h : Ok l) (o : Int) {k : Nat} (hk : k < l.length) (hs : upto l o - 1 ≤ k) : pr (cutStart l o) (k - (upto l o - 1)) = if k - (upto l o - 1) = 0 ∧ (pr l k).st < o then ⟨(pr l k).ep, min o 1099511627776⟩ else pr l k := by
  have hu := upto_iff h.rise o hk
  unfold cutStart
  by_cases h0 : upto l o = 0
  · rw [if_pos h0, h0, if_neg (fun x => by have := hu.1 (by omega); omega)]
    rfl
  · rw [if_neg h0]
    have hle := upto_le l o
    obtain ⟨j, hj⟩ : ∃ j, j = k - (upto l o - 1) := ⟨_, rfl⟩
    have hkj : k = upto l o - 1 + j := by omega
    rw [← hj]
    cases j with
    | zero =>
      rw [front_zero _ (by rw [List.length_drop]; omega), pr_drop, ← hkj]
      by_cases hst : (pr l k).st < o
      · rw [if_pos ⟨rfl, hst⟩]
      · rw [if_neg (fun x => hst x.2)]
        have h1 := hu.2 (by omega)
        have h2 := (h.right k hk).2.2
        exact Pr.ext2 rfl (by show min o 1099511627776 = _; omega)
    | succ j =>
      rw [front_succ, pr_drop, ← hkj, if_neg (fun x => by omega)]
/-- What Span has, pair by pair. -/
theorem span_at {l : List Pr} (h : Ok l) {a b : Int} (hab : a < b) {k : Nat} (hk : k < ahead l b) (hs : upto l a - 1 ≤ k) : pr (span l a b) (k - (upto l a - 1)) = if (pr l k).st < a then ⟨(pr l k).ep, a⟩ else pr l k := by
  have hal := ahead_le l b
  have hlen := span_len (l := l) a b hab
  have hu := upto_iff h.rise a (i := k) (by omega)
  obtain ⟨j, hj⟩ : ∃ j, j = k - (upto l a - 1) := ⟨_, rfl⟩
  have hkj : k = upto l a - 1 + j := by omega
  rw [← hj]
  cases j with
  | zero =>
    rw [span_pr0 a b hab (by omega), show upto l a - 1 = k by omega]
    by_cases hst : (pr l k).st < a
    · rw [if_pos hst, show max (pr l k).st a = a by omega]
    · rw [if_neg hst]
      exact Pr.ext2 rfl (by show max _ _ = _; omega)
  | succ j =>
    rw [span_pr a b hab j (by omega), ← hkj, if_neg (fun x => by have := hu.1 (by omega); omega)]
end Ep

set_option maxRecDepth 100000 in
set_option maxHeartbeats 2000000 in
theorem refCutStart_any (A : Option Addr) (c n : Nat) (l : List Ep.Pr) (o : Int) (w : World) (hn : l.length = n) (hok : Ep.Ok l) (h : PrAt w A c l) :
    Calls Tryd.prog 22 #[.slice A n c, .int .i64 o] w fun e w' => ∃ v, e = .returned v ∧ OwnP w' w.heap.size v (Ep.cutStart l o) ∧ Below w.heap.size w w' := by
  have HAT := hide h.stays
  have HU := hide (fun i hi => Ep.upto_iff hok.rise o (i := i) hi)
  have hul := Ep.upto_le l o
  have hle := hn ▸ h.le
  have hlen := hok.len
  have hcl := Ep.len_cutStart l o
  have HP := hide (fun k hk hs => Ep.cutStart_at hok o (k := k) hk hs)
  rw [hn] at HAT HU hul hlen hcl HP
  generalize Ep.upto l o = u at *
  generalize Ep.cutStart l o = C at *
  obtain ⟨s, hs⟩ : ∃ s, s = u - 1 := ⟨_, rfl⟩
  rw [← hs] at hcl HP
  replace hs : s + 1 = u ∨ (s = 0 ∧ u = 0) := by omega
  have HT : Hid (∀ j, j < n - s → C.take (j + 1) = C.take j ++ [Ep.pr C j]) := hide fun j hj => Ep.take_succ (by omega)
  have HLK : Hid (∀ j, j ≤ n - s → (C.take j).length = j) := hide fun j hj => by rw [List.length_take]; omega
  clear hn hok h
  go_enter Tryd.func22, Tryd.ntmps22
  go_wp2_with fail
  go_loopw [5, 6] (fun v i wr => ∃ k : Nat, k ≤ n ∧ i = .int .i64 k ∧ OwnP wr w.heap.size v (C.take (k - s)) ∧ Below w.heap.size w wr) (fun _ i _ => n - (intOf i).toNat)
  case atStart => exact ⟨0, Nat.zero_le _, rfl, by rw [Nat.zero_sub]; exact World.ownsRow_nil _ _ _ _, Below.refl _ _⟩
  case round =>
    obtain ⟨k, hk, rfl, ho, hb⟩ := hrel
    have HO := hide ho
    have HB := hide hb
    by_cases hlt : k < n
    · obtain ⟨g, f, rfl, k0, k1⟩ := HAT.out _ hb k hlt
      have d1 : decide ((k : Int) < n) = true := decide_eq_true (by omega)
      have hiff := HU.out k hlt
      have hw1 : IntKind.i64.wrap ((k : Int) + 1) = (k : Int) + 1 := by rw [IntKind.wrap_i64]; omega
      by_cases hsk : k < s
      · have d2 : decide ((k : Int) + 1 < n) = true := decide_eq_true (by omega)
        obtain ⟨g', f', e', -, k3⟩ := HAT.out _ hb (k + 1) (by omega)
        injection e' with e'
        injection e' with e1 e2
        subst e1 e2
        have d3 : decide ((Ep.pr l (k + 1)).st ≤ o) = true := decide_eq_true ((HU.out (k + 1) (by omega)).2 (by omega))
        generalize (Ep.pr l (k + 1)).st = pq at *
        clear ho hb hiff k0 k1
        go_wp2_with fail
        go_roundw
        case rel => exact ⟨k + 1, by omega, by go_num, by rw [show k + 1 - s = k - s by omega]; exact HO.out, HB.out⟩
        case measure => simp [intOf]; omega
      · obtain ⟨j, hj⟩ : ∃ j, j = k - s := ⟨_, rfl⟩
        have HPK := hide (HP.out k hlt (by omega))
        rw [← hj] at HO HPK
        replace hj : s + j = k := by omega
        have HTJ := hide (HT.out j (by omega))
        have hLJ := HLK.out j (by omega)
        rw [HPK.out] at HTJ
        obtain ⟨Ar, cr, hv, hpr, hpr0, -⟩ := pairs_at HO.out
        rw [hLJ] at hv
        subst hv
        have hNX : Hid (k + 1 < n → ∃ pq, wr.cell? ⟨g, f + (k + 1) * 2 + 1, none⟩ = some (.int .i64 pq) ∧ ¬ pq ≤ o) := hide fun hk1 => by
          obtain ⟨g', f', e', -, k3⟩ := HAT.out _ hb (k + 1) hk1
          injection e' with e'
          injection e' with e1 e2
          subst e1 e2
          exact ⟨_, k3, fun x => by have := (HU.out (k + 1) hk1).1 x; omega⟩
        generalize hq : Ep.pr l k = q at *
        obtain ⟨pe, ps⟩ := q
        simp only at k0 k1 hiff HTJ
        obtain ⟨W1, hW1⟩ : ∃ W1, W1 = wr.alloc (.cells #[.int .i64 pe, .int .i64 ps] 59) := ⟨_, rfl⟩
        have hb1 : Below wr.heap.size wr W1 := by rw [hW1]; exact balloc (Below.refl _ _) _
        have hbx : W1.heap[wr.heap.size]? = some (.cells #[.int .i64 pe, .int .i64 ps] 59 (0, 0)) := by rw [hW1]; exact heap_alloc_new _ _
        have y0 := box_cell hbx 0
        have y1 := box_cell hbx 1
        have g1 := box_free hbx 1
        have HW1 := hide hW1
        have HBW1 := hide (hb.trans (hb1.mono hb.size))
        have HO1 := hide (ownP_below HO.out hb1)
        clear ho hb hb1 hq hW1 hbx hpr hpr0
        have HLJ := hide hLJ
        clear hLJ
        by_cases hlast : k + 1 < n
        · obtain ⟨pq, k3, hpq⟩ := hNX.out hlast
          have d2 : decide ((k : Int) + 1 < n) = true := decide_eq_true (by omega)
          have d3 : decide (pq ≤ o) = false := decide_eq_false hpq
          clear hNX
          by_cases hj0 : j = 0
          · have dj : ((j : Int) == 0) = true := by simp; exact hj0
            by_cases hst : ps < o
            · have d5 : decide (ps < o) = true := decide_eq_true hst
              go_upto_region 7 with fail
              rw [← HW1.out]
              go_upto_region 9 with fail
              obtain ⟨W2, hW2⟩ : ∃ W2, W2 = W1.setCell ⟨wr.heap.size, 1, none⟩ (.int .i64 (min o 1099511627776)) := ⟨_, rfl⟩
              rw [← hW2]
              have z0 : W2.cell? ⟨wr.heap.size, 0, none⟩ = some (.int .i64 pe) := by rw [hW2, World.cell?_setCell_other _ _ _ _ (by simp)]; exact y0
              have z1 : W2.cell? ⟨wr.heap.size, 1, none⟩ = some (.int .i64 (min o 1099511627776)) := by rw [hW2]; exact World.cell?_setCell_same _ _ _ y1
              have hb2 : Below wr.heap.size wr W2 := by rw [hW2, HW1.out]; exact bset (balloc (Below.refl _ _) _) 1 _
              have HBW2 := hide (HB.out.trans (hb2.mono HB.out.size))
              have HO2 := hide (ownP_below HO.out hb2)
              have HTN : Hid (C.take (j + 1) = C.take j ++ [⟨pe, min o 1099511627776⟩]) := hide (by rw [HTJ, if_pos ⟨hj0, hst⟩])
              clear hW2 hb2 y0 y1 HTJ HPK
              generalize min o 1099511627776 = mo at *
              have HOA : Hid (World.ownsRow (W2.alloc (.cells #[.int .i64 pe, .int .i64 mo] 59)) w.heap.size 59 2 (.slice Ar j cr) j ((C.take j).flatMap prCells)) := hide (by
                have := World.ownsRow.alloc HO2.out (.cells #[.int .i64 pe, .int .i64 mo] 59)
                rwa [HLJ.out] at this)
              go_wp2_with (first | (at_builtin; refine wpList_appG (w := W2.alloc _) rfl 22 59 2 16 _ (by kernel_rfl) pair_info rfl (by omega) (.tmp 45) (.tmp 47) rfl w.heap.size (.slice Ar j cr) j ((C.take j).flatMap prCells) rfl HOA.out ⟨W2.heap.size, 0, none⟩ 1 1 (prCells ⟨pe, mo⟩) rfl rfl (news2 (w := W2)) (prs_one [⟨pe, mo⟩]) (by simp [maxLen]; omega) (by omega) (by have := HBW2.out.size; simp; omega) ?_; intro v3 w3 ho3 hg3 hv3) | fail)
              have hbb : Below w.heap.size w w3 := (balloc HBW2.out _).grown hg3 (by have := HBW2.out.size; simp; omega) (fun g hg => (HOA.out.lt g hg).1)
              have hoo : OwnP w3 w.heap.size v3 (C.take (j + 1)) := by
                rw [HTN.out]
                unfold OwnP
                rw [List.length_append, HLJ.out, List.flatMap_append]
                exact ho3
              clear ho3 hg3 hv3
              have HB3 := hide hbb
              have HO3 := hide hoo
              clear hbb hoo
              go_wp2_with fail
              go_roundw
              case rel => exact ⟨k + 1, by omega, by go_num, by rw [show k + 1 - s = j + 1 by omega]; exact HO3.out, HB3.out⟩
              case measure => simp [intOf]; omega
            · have d5 : decide (ps < o) = false := decide_eq_false hst
              have HTN : Hid (C.take (j + 1) = C.take j ++ [⟨pe, ps⟩]) := hide (by rw [HTJ, if_neg (fun x => hst x.2)])
              clear HTJ HPK
              go_upto_region 7 with fail
              rw [← HW1.out]
              have HOA : Hid (World.ownsRow (W1.alloc (.cells #[.int .i64 pe, .int .i64 ps] 59)) w.heap.size 59 2 (.slice Ar j cr) j ((C.take j).flatMap prCells)) := hide (by
                have := World.ownsRow.alloc HO1.out (.cells #[.int .i64 pe, .int .i64 ps] 59)
                rwa [HLJ.out] at this)
              go_wp2_with (first | (at_builtin; refine wpList_appG (w := W1.alloc _) rfl 22 59 2 16 _ (by kernel_rfl) pair_info rfl (by omega) (.tmp 45) (.tmp 47) rfl w.heap.size (.slice Ar j cr) j ((C.take j).flatMap prCells) rfl HOA.out ⟨W1.heap.size, 0, none⟩ 1 1 (prCells ⟨pe, ps⟩) rfl rfl (news2 (w := W1)) (prs_one [⟨pe, ps⟩]) (by simp [maxLen]; omega) (by omega) (by have := HBW1.out.size; simp; omega) ?_; intro v3 w3 ho3 hg3 hv3) | fail)
              have hbb : Below w.heap.size w w3 := (balloc HBW1.out _).grown hg3 (by have := HBW1.out.size; simp; omega) (fun g hg => (HOA.out.lt g hg).1)
              have hoo : OwnP w3 w.heap.size v3 (C.take (j + 1)) := by
                rw [HTN.out]
                unfold OwnP
                rw [List.length_append, HLJ.out, List.flatMap_append]
                exact ho3
              clear ho3 hg3 hv3
              have HB3 := hide hbb
              have HO3 := hide hoo
              clear hbb hoo
              go_wp2_with fail
              go_roundw
              case rel => exact ⟨k + 1, by omega, by go_num, by rw [show k + 1 - s = j + 1 by omega]; exact HO3.out, HB3.out⟩
              case measure => simp [intOf]; omega
          · have dj : ((j : Int) == 0) = false := by simp; exact hj0
            have HTN : Hid (C.take (j + 1) = C.take j ++ [⟨pe, ps⟩]) := hide (by rw [HTJ, if_neg (fun x => hj0 x.1)])
            clear HTJ HPK
            go_upto_region 7 with fail
            rw [← HW1.out]
            have HOA : Hid (World.ownsRow (W1.alloc (.cells #[.int .i64 pe, .int .i64 ps] 59)) w.heap.size 59 2 (.slice Ar j cr) j ((C.take j).flatMap prCells)) := hide (by
              have := World.ownsRow.alloc HO1.out (.cells #[.int .i64 pe, .int .i64 ps] 59)
              rwa [HLJ.out] at this)
            go_wp2_with (first | (at_builtin; refine wpList_appG (w := W1.alloc _) rfl 22 59 2 16 _ (by kernel_rfl) pair_info rfl (by omega) (.tmp 45) (.tmp 47) rfl w.heap.size (.slice Ar j cr) j ((C.take j).flatMap prCells) rfl HOA.out ⟨W1.heap.size, 0, none⟩ 1 1 (prCells ⟨pe, ps⟩) rfl rfl (news2 (w := W1)) (prs_one [⟨pe, ps⟩]) (by simp [maxLen]; omega) (by omega) (by have := HBW1.out.size; simp; omega) ?_; intro v3 w3 ho3 hg3 hv3) | fail)
            have hbb : Below w.heap.size w w3 := (balloc HBW1.out _).grown hg3 (by have := HBW1.out.size; simp; omega) (fun g hg => (HOA.out.lt g hg).1)
            have hoo : OwnP w3 w.heap.size v3 (C.take (j + 1)) := by
              rw [HTN.out]
              unfold OwnP
              rw [List.length_append, HLJ.out, List.flatMap_append]
              exact ho3
            clear ho3 hg3 hv3
            have HB3 := hide hbb
            have HO3 := hide hoo
            clear hbb hoo
            go_wp2_with fail
            go_roundw
            case rel => exact ⟨k + 1, by omega, by go_num, by rw [show k + 1 - s = j + 1 by omega]; exact HO3.out, HB3.out⟩
            case measure => simp [intOf]; omega
        · have d2 : decide ((k : Int) + 1 < n) = false := decide_eq_false (by omega)
          clear hNX
          by_cases hj0 : j = 0
          · have dj : ((j : Int) == 0) = true := by simp; exact hj0
            by_cases hst : ps < o
            · have d5 : decide (ps < o) = true := decide_eq_true hst
              go_upto_region 7 with fail
              rw [← HW1.out]
              go_upto_region 9 with fail
              obtain ⟨W2, hW2⟩ : ∃ W2, W2 = W1.setCell ⟨wr.heap.size, 1, none⟩ (.int .i64 (min o 1099511627776)) := ⟨_, rfl⟩
              rw [← hW2]
              have z0 : W2.cell? ⟨wr.heap.size, 0, none⟩ = some (.int .i64 pe) := by rw [hW2, World.cell?_setCell_other _ _ _ _ (by simp)]; exact y0
              have z1 : W2.cell? ⟨wr.heap.size, 1, none⟩ = some (.int .i64 (min o 1099511627776)) := by rw [hW2]; exact World.cell?_setCell_same _ _ _ y1
              have hb2 : Below wr.heap.size wr W2 := by rw [hW2, HW1.out]; exact bset (balloc (Below.refl _ _) _) 1 _
              have HBW2 := hide (HB.out.trans (hb2.mono HB.out.size))
              have HO2 := hide (ownP_below HO.out hb2)
              have HTN : Hid (C.take (j + 1) = C.take j ++ [⟨pe, min o 1099511627776⟩]) := hide (by rw [HTJ, if_pos ⟨hj0, hst⟩])
              clear hW2 hb2 y0 y1 HTJ HPK
              generalize min o 1099511627776 = mo at *
              have HOA : Hid (World.ownsRow (W2.alloc (.cells #[.int .i64 pe, .int .i64 mo] 59)) w.heap.size 59 2 (.slice Ar j cr) j ((C.take j).flatMap prCells)) := hide (by
                have := World.ownsRow.alloc HO2.out (.cells #[.int .i64 pe, .int .i64 mo] 59)
                rwa [HLJ.out] at this)
              go_wp2_with (first | (at_builtin; refine wpList_appG (w := W2.alloc _) rfl 22 59 2 16 _ (by kernel_rfl) pair_info rfl (by omega) (.tmp 45) (.tmp 47) rfl w.heap.size (.slice Ar j cr) j ((C.take j).flatMap prCells) rfl HOA.out ⟨W2.heap.size, 0, none⟩ 1 1 (prCells ⟨pe, mo⟩) rfl rfl (news2 (w := W2)) (prs_one [⟨pe, mo⟩]) (by simp [maxLen]; omega) (by omega) (by have := HBW2.out.size; simp; omega) ?_; intro v3 w3 ho3 hg3 hv3) | fail)
              have hbb : Below w.heap.size w w3 := (balloc HBW2.out _).grown hg3 (by have := HBW2.out.size; simp; omega) (fun g hg => (HOA.out.lt g hg).1)
              have hoo : OwnP w3 w.heap.size v3 (C.take (j + 1)) := by
                rw [HTN.out]
                unfold OwnP
                rw [List.length_append, HLJ.out, List.flatMap_append]
                exact ho3
              clear ho3 hg3 hv3
              have HB3 := hide hbb
              have HO3 := hide hoo
              clear hbb hoo
              go_wp2_with fail
              go_roundw
              case rel => exact ⟨k + 1, by omega, by go_num, by rw [show k + 1 - s = j + 1 by omega]; exact HO3.out, HB3.out⟩
              case measure => simp [intOf]; omega
            · have d5 : decide (ps < o) = false := decide_eq_false hst
              have HTN : Hid (C.take (j + 1) = C.take j ++ [⟨pe, ps⟩]) := hide (by rw [HTJ, if_neg (fun x => hst x.2)])
              clear HTJ HPK
              go_upto_region 7 with fail
              rw [← HW1.out]
              have HOA : Hid (World.ownsRow (W1.alloc (.cells #[.int .i64 pe, .int .i64 ps] 59)) w.heap.size 59 2 (.slice Ar j cr) j ((C.take j).flatMap prCells)) := hide (by
                have := World.ownsRow.alloc HO1.out (.cells #[.int .i64 pe, .int .i64 ps] 59)
                rwa [HLJ.out] at this)
              go_wp2_with (first | (at_builtin; refine wpList_appG (w := W1.alloc _) rfl 22 59 2 16 _ (by kernel_rfl) pair_info rfl (by omega) (.tmp 45) (.tmp 47) rfl w.heap.size (.slice Ar j cr) j ((C.take j).flatMap prCells) rfl HOA.out ⟨W1.heap.size, 0, none⟩ 1 1 (prCells ⟨pe, ps⟩) rfl rfl (news2 (w := W1)) (prs_one [⟨pe, ps⟩]) (by simp [maxLen]; omega) (by omega) (by have := HBW1.out.size; simp; omega) ?_; intro v3 w3 ho3 hg3 hv3) | fail)
              have hbb : Below w.heap.size w w3 := (balloc HBW1.out _).grown hg3 (by have := HBW1.out.size; simp; omega) (fun g hg => (HOA.out.lt g hg).1)
              have hoo : OwnP w3 w.heap.size v3 (C.take (j + 1)) := by
                rw [HTN.out]
                unfold OwnP
                rw [List.length_append, HLJ.out, List.flatMap_append]
                exact ho3
              clear ho3 hg3 hv3
              have HB3 := hide hbb
              have HO3 := hide hoo
              clear hbb hoo
              go_wp2_with fail
              go_roundw
              case rel => exact ⟨k + 1, by omega, by go_num, by rw [show k + 1 - s = j + 1 by omega]; exact HO3.out, HB3.out⟩
              case measure => simp [intOf]; omega
          · have dj : ((j : Int) == 0) = false := by simp; exact hj0
            have HTN : Hid (C.take (j + 1) = C.take j ++ [⟨pe, ps⟩]) := hide (by rw [HTJ, if_neg (fun x => hj0 x.1)])
            clear HTJ HPK
            go_upto_region 7 with fail
            rw [← HW1.out]
            have HOA : Hid (World.ownsRow (W1.alloc (.cells #[.int .i64 pe, .int .i64 ps] 59)) w.heap.size 59 2 (.slice Ar j cr) j ((C.take j).flatMap prCells)) := hide (by
              have := World.ownsRow.alloc HO1.out (.cells #[.int .i64 pe, .int .i64 ps] 59)
              rwa [HLJ.out] at this)
            go_wp2_with (first | (at_builtin; refine wpList_appG (w := W1.alloc _) rfl 22 59 2 16 _ (by kernel_rfl) pair_info rfl (by omega) (.tmp 45) (.tmp 47) rfl w.heap.size (.slice Ar j cr) j ((C.take j).flatMap prCells) rfl HOA.out ⟨W1.heap.size, 0, none⟩ 1 1 (prCells ⟨pe, ps⟩) rfl rfl (news2 (w := W1)) (prs_one [⟨pe, ps⟩]) (by simp [maxLen]; omega) (by omega) (by have := HBW1.out.size; simp; omega) ?_; intro v3 w3 ho3 hg3 hv3) | fail)
            have hbb : Below w.heap.size w w3 := (balloc HBW1.out _).grown hg3 (by have := HBW1.out.size; simp; omega) (fun g hg => (HOA.out.lt g hg).1)
            have hoo : OwnP w3 w.heap.size v3 (C.take (j + 1)) := by
              rw [HTN.out]
              unfold OwnP
              rw [List.length_append, HLJ.out, List.flatMap_append]
              exact ho3
            clear ho3 hg3 hv3
            have HB3 := hide hbb
            have HO3 := hide hoo
            clear hbb hoo
            go_wp2_with fail
            go_roundw
            case rel => exact ⟨k + 1, by omega, by go_num, by rw [show k + 1 - s = j + 1 by omega]; exact HO3.out, HB3.out⟩
            case measure => simp [intOf]; omega
    · obtain rfl : k = n := by omega
      have d1 : decide ((k : Int) < k) = false := decide_eq_false (by omega)
      clear ho hb
      go_wp2_with fail
      go_ret
      refine ⟨_, rfl, ?_, HB.out⟩
      have := HO.out
      rwa [List.take_of_length_le (by omega)] at this
end Go.Proofs.YtplpakdbahlgaaaDoor

namespace Go.Proofs.YtplpakdbahlgaaaDoor
open Go.RowKit

set_option maxRecDepth 100000 in
set_option maxHeartbeats 2000000 in
theorem refSpan_any (A : Option Addr) (c n : Nat) (l : List Ep.Pr) (a b : Int) (w : World) (hn : l.length = n) (hok : Ep.Ok l) (h : PrAt w A c l) :
    Calls Tryd.prog 50 #[.slice A n c, .int .i64 a, .int .i64 b] w fun e w' => ∃ v, e = .returned v ∧ OwnP w' w.heap.size v (Ep.span l a b) ∧ Below w.heap.size w w' := by
  by_cases hab : a < b
  · have dab : decide (b ≤ a) = false := decide_eq_false (by omega)
    have HAT := hide h.stays
    have HU := hide (fun i hi => Ep.upto_iff hok.rise a (i := i) hi)
    have HH := hide (fun i hi => Ep.ahead_iff hok.rise b (i := i) hi)
    have hul := Ep.upto_le l a
    have htl := Ep.ahead_le l b
    have hut := Ep.upto_ahead hok.rise hab
    have hle := hn ▸ h.le
    have hlen := hok.len
    have hcl := Ep.span_len (l := l) a b hab
    have HP := hide (fun k hk hs => Ep.span_at hok hab (k := k) hk hs)
    rw [hn] at HAT HU HH hul htl hlen
    generalize Ep.upto l a = u at *
    generalize Ep.ahead l b = t at *
    generalize Ep.span l a b = C at *
    obtain ⟨s, hs⟩ : ∃ s, s = u - 1 := ⟨_, rfl⟩
    rw [← hs] at hcl HP
    replace hs : s + 1 = u ∨ (s = 0 ∧ u = 0) := by omega
    have HT : Hid (∀ j, j < t - s → C.take (j + 1) = C.take j ++ [Ep.pr C j]) := hide fun j hj => Ep.take_succ (by omega)
    have HLK : Hid (∀ j, j ≤ t - s → (C.take j).length = j) := hide fun j hj => by rw [List.length_take]; omega
    clear hn hok h hab
    go_enter Tryd.func50, Tryd.ntmps50
    go_wp2_with fail
    go_loopw [7, 8] (fun v i wr => ∃ k : Nat, k ≤ n ∧ i = .int .i64 k ∧ OwnP wr w.heap.size v (C.take (min k t - s)) ∧ Below w.heap.size w wr) (fun _ i _ => n - (intOf i).toNat)
    case atStart => exact ⟨0, Nat.zero_le _, rfl, by rw [Nat.zero_min, Nat.zero_sub]; exact World.ownsRow_nil _ _ _ _, Below.refl _ _⟩
    case round =>
      obtain ⟨k, hk, rfl, ho, hb⟩ := hrel
      have HO := hide ho
      have HB := hide hb
      by_cases hlt : k < n
      · obtain ⟨g, f, rfl, k0, k1⟩ := HAT.out _ hb k hlt
        have d1 : decide ((k : Int) < n) = true := decide_eq_true (by omega)
        have hahd := HH.out k hlt
        have hw1 : IntKind.i64.wrap ((k : Int) + 1) = (k : Int) + 1 := by rw [IntKind.wrap_i64]; omega
        by_cases hkt : k < t
        · have dg : decide (b ≤ (Ep.pr l k).st) = false := decide_eq_false (by have := hahd.2 hkt; omega)
          by_cases hsk : k < s
          · have d2 : decide ((k : Int) + 1 < n) = true := decide_eq_true (by omega)
            obtain ⟨g', f', e', -, k3⟩ := HAT.out _ hb (k + 1) (by omega)
            injection e' with e'
            injection e' with e1 e2
            subst e1 e2
            have d3 : decide ((Ep.pr l (k + 1)).st ≤ a) = true := decide_eq_true ((HU.out (k + 1) (by omega)).2 (by omega))
            generalize (Ep.pr l (k + 1)).st = pq at *
            generalize (Ep.pr l k).st = ps at *
            clear ho hb hahd k0
            go_wp2_with fail
            go_roundw
            case rel => exact ⟨k + 1, by omega, by go_num, by rw [show min (k + 1) t - s = min k t - s by omega]; exact HO.out, HB.out⟩
            case measure => simp [intOf]; omega
          · obtain ⟨j, hj⟩ : ∃ j, j = k - s := ⟨_, rfl⟩
            have HPK := hide (HP.out k hkt (by omega))
            rw [← hj] at HPK
            rw [show min k t - s = j by omega] at HO
            replace hj : s + j = k := by omega
            have HTJ := hide (HT.out j (by omega))
            have hLJ := HLK.out j (by omega)
            rw [HPK.out] at HTJ
            obtain ⟨Ar, cr, hv, hpr, hpr0, -⟩ := pairs_at HO.out
            rw [hLJ] at hv
            subst hv
            have hNX : Hid (k + 1 < n → ∃ pq, wr.cell? ⟨g, f + (k + 1) * 2 + 1, none⟩ = some (.int .i64 pq) ∧ ¬ pq ≤ a) := hide fun hk1 => by
              obtain ⟨g', f', e', -, k3⟩ := HAT.out _ hb (k + 1) hk1
              injection e' with e'
              injection e' with e1 e2
              subst e1 e2
              exact ⟨_, k3, fun x => by have := (HU.out (k + 1) hk1).1 x; omega⟩
            clear hahd
            generalize hq : Ep.pr l k = q at *
            obtain ⟨pe, ps⟩ := q
            simp only at k0 k1 dg HTJ
            obtain ⟨W1, hW1⟩ : ∃ W1, W1 = wr.alloc (.cells #[.int .i64 pe, .int .i64 ps] 59) := ⟨_, rfl⟩
            have hb1 : Below wr.heap.size wr W1 := by rw [hW1]; exact balloc (Below.refl _ _) _
            have hbx : W1.heap[wr.heap.size]? = some (.cells #[.int .i64 pe, .int .i64 ps] 59 (0, 0)) := by rw [hW1]; exact heap_alloc_new _ _
            have y0 := box_cell hbx 0
            have y1 := box_cell hbx 1
            have g1 := box_free hbx 1
            have HW1 := hide hW1
            have HBW1 := hide (hb.trans (hb1.mono hb.size))
            have HO1 := hide (ownP_below HO.out hb1)
            clear ho hb hb1 hq hW1 hbx hpr hpr0
            have HLJ := hide hLJ
            clear hLJ
            by_cases hlast : k + 1 < n
            · obtain ⟨pq, k3, hpq⟩ := hNX.out hlast
              have d2 : decide ((k : Int) + 1 < n) = true := decide_eq_true (by omega)
              have d3 : decide (pq ≤ a) = false := decide_eq_false hpq
              clear hNX
              by_cases hst : ps < a
              · have d5 : decide (ps < a) = true := decide_eq_true hst
                go_upto_region 9 with fail
                rw [← HW1.out]
                go_upto_region 11 with fail
                obtain ⟨W2, hW2⟩ : ∃ W2, W2 = W1.setCell ⟨wr.heap.size, 1, none⟩ (.int .i64 a) := ⟨_, rfl⟩
                rw [← hW2]
                have z0 : W2.cell? ⟨wr.heap.size, 0, none⟩ = some (.int .i64 pe) := by rw [hW2, World.cell?_setCell_other _ _ _ _ (by simp)]; exact y0
                have z1 : W2.cell? ⟨wr.heap.size, 1, none⟩ = some (.int .i64 a) := by rw [hW2]; exact World.cell?_setCell_same _ _ _ y1
                have hb2 : Below wr.heap.size wr W2 := by rw [hW2, HW1.out]; exact bset (balloc (Below.refl _ _) _) 1 _
                have HBW2 := hide (HB.out.trans (hb2.mono HB.out.size))
                have HO2 := hide (ownP_below HO.out hb2)
                have HTN : Hid (C.take (j + 1) = C.take j ++ [⟨pe, a⟩]) := hide (by rw [HTJ, if_pos hst])
                clear hW2 hb2 y0 y1 HTJ HPK
                have HOA : Hid (World.ownsRow (W2.alloc (.cells #[.int .i64 pe, .int .i64 a] 59)) w.heap.size 59 2 (.slice Ar j cr) j ((C.take j).flatMap prCells)) := hide (by
                  have := World.ownsRow.alloc HO2.out (.cells #[.int .i64 pe, .int .i64 a] 59)
                  rwa [HLJ.out] at this)
                go_wp2_with (first | (at_builtin; refine wpList_appG (w := W2.alloc _) rfl 22 59 2 16 _ (by kernel_rfl) pair_info rfl (by omega) (.tmp 53) (.tmp 55) rfl w.heap.size (.slice Ar j cr) j ((C.take j).flatMap prCells) rfl HOA.out ⟨W2.heap.size, 0, none⟩ 1 1 (prCells ⟨pe, a⟩) rfl rfl (news2 (w := W2)) (prs_one [⟨pe, a⟩]) (by simp [maxLen]; omega) (by omega) (by have := HBW2.out.size; simp; omega) ?_; intro v3 w3 ho3 hg3 hv3) | fail)
                have hbb : Below w.heap.size w w3 := (balloc HBW2.out _).grown hg3 (by have := HBW2.out.size; simp; omega) (fun g hg => (HOA.out.lt g hg).1)
                have hoo : OwnP w3 w.heap.size v3 (C.take (j + 1)) := by
                  rw [HTN.out]
                  unfold OwnP
                  rw [List.length_append, HLJ.out, List.flatMap_append]
                  exact ho3
                clear ho3 hg3 hv3
                have HB3 := hide hbb
                have HO3 := hide hoo
                clear hbb hoo
                go_wp2_with fail
                go_roundw
                case rel => exact ⟨k + 1, by omega, by go_num, by rw [show min (k + 1) t - s = j + 1 by omega]; exact HO3.out, HB3.out⟩
                case measure => simp [intOf]; omega
              · have d5 : decide (ps < a) = false := decide_eq_false hst
                have HTN : Hid (C.take (j + 1) = C.take j ++ [⟨pe, ps⟩]) := hide (by rw [HTJ, if_neg hst])
                clear HTJ HPK
                go_upto_region 9 with fail
                rw [← HW1.out]
                have HOA : Hid (World.ownsRow (W1.alloc (.cells #[.int .i64 pe, .int .i64 ps] 59)) w.heap.size 59 2 (.slice Ar j cr) j ((C.take j).flatMap prCells)) := hide (by
                  have := World.ownsRow.alloc HO1.out (.cells #[.int .i64 pe, .int .i64 ps] 59)
                  rwa [HLJ.out] at this)
                go_wp2_with (first | (at_builtin; refine wpList_appG (w := W1.alloc _) rfl 22 59 2 16 _ (by kernel_rfl) pair_info rfl (by omega) (.tmp 53) (.tmp 55) rfl w.heap.size (.slice Ar j cr) j ((C.take j).flatMap prCells) rfl HOA.out ⟨W1.heap.size, 0, none⟩ 1 1 (prCells ⟨pe, ps⟩) rfl rfl (news2 (w := W1)) (prs_one [⟨pe, ps⟩]) (by simp [maxLen]; omega) (by omega) (by have := HBW1.out.size; simp; omega) ?_; intro v3 w3 ho3 hg3 hv3) | fail)
                have hbb : Below w.heap.size w w3 := (balloc HBW1.out _).grown hg3 (by have := HBW1.out.size; simp; omega) (fun g hg => (HOA.out.lt g hg).1)
                have hoo : OwnP w3 w.heap.size v3 (C.take (j + 1)) := by
                  rw [HTN.out]
                  unfold OwnP
                  rw [List.length_append, HLJ.out, List.flatMap_append]
                  exact ho3
                clear ho3 hg3 hv3
                have HB3 := hide hbb
                have HO3 := hide hoo
                clear hbb hoo
                go_wp2_with fail
                go_roundw
                case rel => exact ⟨k + 1, by omega, by go_num, by rw [show min (k + 1) t - s = j + 1 by omega]; exact HO3.out, HB3.out⟩
                case measure => simp [intOf]; omega
            · have d2 : decide ((k : Int) + 1 < n) = false := decide_eq_false (by omega)
              clear hNX
              by_cases hst : ps < a
              · have d5 : decide (ps < a) = true := decide_eq_true hst
                go_upto_region 9 with fail
                rw [← HW1.out]
                go_upto_region 11 with fail
                obtain ⟨W2, hW2⟩ : ∃ W2, W2 = W1.setCell ⟨wr.heap.size, 1, none⟩ (.int .i64 a) := ⟨_, rfl⟩
                rw [← hW2]
                have z0 : W2.cell? ⟨wr.heap.size, 0, none⟩ = some (.int .i64 pe) := by rw [hW2, World.cell?_setCell_other _ _ _ _ (by simp)]; exact y0
                have z1 : W2.cell? ⟨wr.heap.size, 1, none⟩ = some (.int .i64 a) := by rw [hW2]; exact World.cell?_setCell_same _ _ _ y1
                have hb2 : Below wr.heap.size wr W2 := by rw [hW2, HW1.out]; exact bset (balloc (Below.refl _ _) _) 1 _
                have HBW2 := hide (HB.out.trans (hb2.mono HB.out.size))
                have HO2 := hide (ownP_below HO.out hb2)
                have HTN : Hid (C.take (j + 1) = C.take j ++ [⟨pe, a⟩]) := hide (by rw [HTJ, if_pos hst])
                clear hW2 hb2 y0 y1 HTJ HPK
                have HOA : Hid (World.ownsRow (W2.alloc (.cells #[.int .i64 pe, .int .i64 a] 59)) w.heap.size 59 2 (.slice Ar j cr) j ((C.take j).flatMap prCells)) := hide (by
                  have := World.ownsRow.alloc HO2.out (.cells #[.int .i64 pe, .int .i64 a] 59)
                  rwa [HLJ.out] at this)
                go_wp2_with (first | (at_builtin; refine wpList_appG (w := W2.alloc _) rfl 22 59 2 16 _ (by kernel_rfl) pair_info rfl (by omega) (.tmp 53) (.tmp 55) rfl w.heap.size (.slice Ar j cr) j ((C.take j).flatMap prCells) rfl HOA.out ⟨W2.heap.size, 0, none⟩ 1 1 (prCells ⟨pe, a⟩) rfl rfl (news2 (w := W2)) (prs_one [⟨pe, a⟩]) (by simp [maxLen]; omega) (by omega) (by have := HBW2.out.size; simp; omega) ?_; intro v3 w3 ho3 hg3 hv3) | fail)
                have hbb : Below w.heap.size w w3 := (balloc HBW2.out _).grown hg3 (by have := HBW2.out.size; simp; omega) (fun g hg => (HOA.out.lt g hg).1)
                have hoo : OwnP w3 w.heap.size v3 (C.take (j + 1)) := by
                  rw [HTN.out]
                  unfold OwnP
                  rw [List.length_append, HLJ.out, List.flatMap_append]
                  exact ho3
                clear ho3 hg3 hv3
                have HB3 := hide hbb
                have HO3 := hide hoo
                clear hbb hoo
                go_wp2_with fail
                go_roundw
                case rel => exact ⟨k + 1, by omega, by go_num, by rw [show min (k + 1) t - s = j + 1 by omega]; exact HO3.out, HB3.out⟩
                case measure => simp [intOf]; omega
              · have d5 : decide (ps < a) = false := decide_eq_false hst
                have HTN : Hid (C.take (j + 1) = C.take j ++ [⟨pe, ps⟩]) := hide (by rw [HTJ, if_neg hst])
                clear HTJ HPK
                go_upto_region 9 with fail
                rw [← HW1.out]
                have HOA : Hid (World.ownsRow (W1.alloc (.cells #[.int .i64 pe, .int .i64 ps] 59)) w.heap.size 59 2 (.slice Ar j cr) j ((C.take j).flatMap prCells)) := hide (by
                  have := World.ownsRow.alloc HO1.out (.cells #[.int .i64 pe, .int .i64 ps] 59)
                  rwa [HLJ.out] at this)
                go_wp2_with (first | (at_builtin; refine wpList_appG (w := W1.alloc _) rfl 22 59 2 16 _ (by kernel_rfl) pair_info rfl (by omega) (.tmp 53) (.tmp 55) rfl w.heap.size (.slice Ar j cr) j ((C.take j).flatMap prCells) rfl HOA.out ⟨W1.heap.size, 0, none⟩ 1 1 (prCells ⟨pe, ps⟩) rfl rfl (news2 (w := W1)) (prs_one [⟨pe, ps⟩]) (by simp [maxLen]; omega) (by omega) (by have := HBW1.out.size; simp; omega) ?_; intro v3 w3 ho3 hg3 hv3) | fail)
                have hbb : Below w.heap.size w w3 := (balloc HBW1.out _).grown hg3 (by have := HBW1.out.size; simp; omega) (fun g hg => (HOA.out.lt g hg).1)
                have hoo : OwnP w3 w.heap.size v3 (C.take (j + 1)) := by
                  rw [HTN.out]
                  unfold OwnP
                  rw [List.length_append, HLJ.out, List.flatMap_append]
                  exact ho3
                clear ho3 hg3 hv3
                have HB3 := hide hbb
                have HO3 := hide hoo
                clear hbb hoo
                go_wp2_with fail
                go_roundw
                case rel => exact ⟨k + 1, by omega, by go_num, by rw [show min (k + 1) t - s = j + 1 by omega]; exact HO3.out, HB3.out⟩
                case measure => simp [intOf]; omega
        · have dg : decide (b ≤ (Ep.pr l k).st) = true := decide_eq_true (by have := mt hahd.1 hkt; omega)
          generalize (Ep.pr l k).st = ps at *
          clear ho hb hahd k0
          go_wp2_with fail
          go_roundw
          case rel => exact ⟨k + 1, by omega, by go_num, by rw [show min (k + 1) t - s = min k t - s by omega]; exact HO.out, HB.out⟩
          case measure => simp [intOf]; omega
      · obtain rfl : k = n := by omega
        have d1 : decide ((k : Int) < k) = false := decide_eq_false (by omega)
        clear ho hb
        go_wp2_with fail
        go_ret
        refine ⟨_, rfl, ?_, HB.out⟩
        have := HO.out
        rwa [List.take_of_length_le (by omega)] at this
  · have dab : decide (b ≤ a) = true := decide_eq_true (by omega)
    have HQ : Hid (Ep.span l a b = []) := hide (if_pos (by omega))
    clear h hok hab
    go_enter Tryd.func50, Tryd.ntmps50
    go_wp2_with fail
    go_ret
    exact ⟨_, rfl, by rw [HQ.out]; exact World.ownsRow_nil _ _ _ _, Below.refl _ _⟩
end Go.Proofs.YtplpakdbahlgaaaDoor

namespace Go.Proofs.YtplpakdbahlgaaaDoor
open Go.RowKit

/-- An error's number. -/
def codeR : Option Nat → Int
  | none => 0
  | some j => 101 + (j : Nat)
theorem rightEp_any (e : Int) (w : World) : Calls Tryd.prog 40 #[.int .i64 e] w fun r w' => r = .returned (.bool (decide (0 ≤ e ∧ e ≤ 1073741824))) ∧ w = w' := by
  by_cases h1 : 0 ≤ e
  · have d1 : decide (0 ≤ e) = true := decide_eq_true h1
    have d2 : decide (0 ≤ e ∧ e ≤ 1073741824) = decide (e ≤ 1073741824) := decide_eq_decide.2 (by omega)
    rw [d2]
    clear d2 h1
    go_enter Tryd.func40, Tryd.ntmps40
    go_wp2_with fail
    go_ret
    exact ⟨rfl, rfl⟩
  · have d1 : decide (0 ≤ e) = false := decide_eq_false h1
    rw [decide_eq_false (fun k => h1 k.1)]
    clear h1
    go_enter Tryd.func40, Tryd.ntmps40
    go_wp2_with fail
    go_ret
    exact ⟨rfl, rfl⟩
theorem rightSt_any (e : Int) (w : World) : Calls Tryd.prog 41 #[.int .i64 e] w fun r w' => r = .returned (.bool (decide (0 ≤ e ∧ e ≤ 1099511627776))) ∧ w = w' := by
  by_cases h1 : 0 ≤ e
  · have d1 : decide (0 ≤ e) = true := decide_eq_true h1
    have d2 : decide (0 ≤ e ∧ e ≤ 1099511627776) = decide (e ≤ 1099511627776) := decide_eq_decide.2 (by omega)
    rw [d2]
    clear d2 h1
    go_enter Tryd.func41, Tryd.ntmps41
    go_wp2_with fail
    go_ret
    exact ⟨rfl, rfl⟩
  · have d1 : decide (0 ≤ e) = false := decide_eq_false h1
    rw [decide_eq_false (fun k => h1 k.1)]
    clear h1
    go_enter Tryd.func41, Tryd.ntmps41
    go_wp2_with fail
    go_ret
    exact ⟨rfl, rfl⟩

set_option maxRecDepth 100000 in
set_option maxHeartbeats 1000000 in
theorem refValid_any (A : Option Addr) (c : Nat) (l : List Ep.Pr) (w : World) (h : PrAt w A c l) :
    Calls Tryd.prog 12 #[.slice A l.length c] w fun r w' => r = .returned (.int .i64 (codeR (Ep.bad l))) ∧ Below w.heap.size w w' := by
  have hle := h.le
  have hmx := h.mx
  have HP := hide h
  by_cases h256 : 256 < l.length
  · have d : decide ((256 : Int) < l.length) = true := decide_eq_true (by omega)
    have e : Ep.bad l = some 3 := if_pos h256
    rw [e]
    generalize l.length = n at *
    clear HP h e
    go_enter Tryd.func12, Tryd.ntmps12
    go_wp2_with fail
    go_ret
    exact ⟨rfl, Below.refl _ _⟩
  · have d : decide ((256 : Int) < l.length) = false := decide_eq_false (by omega)
    obtain ⟨n, hn⟩ : ∃ n, n = l.length := ⟨_, rfl⟩
    obtain ⟨r, hr⟩ : ∃ r, r = codeR (Ep.bad l) := ⟨_, rfl⟩
    have HR4 : Hid (∀ i, i < n → ¬ Ep.right (Ep.pr l i) → r = 105) := hide fun i hi hk => by
      rw [hr]; unfold Ep.bad; rw [if_neg h256, if_pos (fun k => hk (k i (hn ▸ hi)))]; rfl
    have HR2 : Hid ((∀ i, i < n → Ep.right (Ep.pr l i)) → ∀ i, i + 1 < n → ¬ Ep.step (Ep.pr l i) (Ep.pr l (i + 1)) → r = 103) := hide fun hR i hi hk => by
      rw [hr]; unfold Ep.bad; rw [if_neg h256, if_neg (fun k => k fun j hj => hR j (hn ▸ hj)), if_pos (fun k => hk (k i (hn ▸ hi)))]; rfl
    have HR0 : Hid ((∀ i, i < n → Ep.right (Ep.pr l i)) → (∀ i, i + 1 < n → Ep.step (Ep.pr l i) (Ep.pr l (i + 1))) → r = 0) := hide fun hR hS => by
      rw [hr, (Ep.bad_none (l := l)).2 ⟨by omega, fun j hj => hR j (hn ▸ hj), fun j hj => hS j (hn ▸ hj)⟩]; rfl
    rw [← hr, ← hn]
    rw [← hn] at hle d h256
    have hn256 : n ≤ 256 := by omega
    have HAT : Hid (∀ V, Below w.heap.size w V → ∀ k, k < n → ∃ g f, A = some ⟨g, f, none⟩ ∧ V.cell? ⟨g, f + k * 2, none⟩ = some (.int .i64 (Ep.pr l k).ep) ∧ V.cell? ⟨g, f + k * 2 + 1, none⟩ = some (.int .i64 (Ep.pr l k).st)) := hide fun V hb k hk => by
      obtain ⟨g, f, e, _, k1, k2⟩ := (HP.out.below hb).at_ k (hn ▸ hk)
      exact ⟨g, f, e, k1, k2⟩
    have HN := hide hn
    clear HP h hr hn h256
    go_enter Tryd.func12, Tryd.ntmps12
    go_wp2_with fail
    go_loopw [3] (fun kv wq => ∃ i : Nat, i ≤ n ∧ kv = .int .i64 i ∧ (∀ j, j < i → Ep.right (Ep.pr l j)) ∧ Below w.heap.size w wq) (fun kv _ => n - (intOf kv).toNat)
    case atStart => exact ⟨0, Nat.zero_le _, rfl, fun j h => absurd h (Nat.not_lt_zero _), Below.refl _ _⟩
    case round =>
      obtain ⟨i, hi, rfl, hR, hb⟩ := hrel
      have HRI := hide hR
      have HB := hide hb
      by_cases hin : i < n
      · obtain ⟨g, f, rfl, k1, k2⟩ := HAT.out wr hb i hin
        have hlt : decide ((i : Int) < n) = true := decide_eq_true (by omega)
        have HQ1 := hide (fun V => rightEp_any (Ep.pr l i).ep V)
        have HQ2 := hide (fun V => rightSt_any (Ep.pr l i).st V)
        by_cases hk : Ep.right (Ep.pr l i)
        · rw [decide_eq_true hk.1] at HQ1
          rw [decide_eq_true hk.2] at HQ2
          have HR2I : Hid (∀ j, j < i + 1 → Ep.right (Ep.pr l j)) := hide fun j hj => by
            by_cases e : j = i
            · rw [e]; exact hk
            · exact HRI.out j (by omega)
          generalize (Ep.pr l i).ep = pe at *
          generalize (Ep.pr l i).st = ps at *
          clear hR hb hk
          go_wp2_with (first
            | (go_at_call 40; refine (HQ1.out _).mono ?_; rintro e w3 ⟨rfl, e⟩; subst e)
            | (go_at_call 41; refine (HQ2.out _).mono ?_; rintro e w3 ⟨rfl, e⟩; subst e)
            | fail)
          go_roundw
          case rel => exact ⟨i + 1, by omega, by go_num, HR2I.out, HB.out⟩
          case measure => simp [intOf]; omega
        · have HE := hide (HR4.out i hin hk)
          by_cases hk1 : 0 ≤ (Ep.pr l i).ep ∧ (Ep.pr l i).ep ≤ 1073741824
          · have hk2 : ¬ (0 ≤ (Ep.pr l i).st ∧ (Ep.pr l i).st ≤ 1099511627776) := fun k => hk ⟨hk1, k⟩
            rw [decide_eq_true hk1] at HQ1
            rw [decide_eq_false hk2] at HQ2
            generalize (Ep.pr l i).ep = pe at *
            generalize (Ep.pr l i).st = ps at *
            clear hR hb hk hk1 hk2
            go_wp2_with (first
              | (go_at_call 40; refine (HQ1.out _).mono ?_; rintro e w3 ⟨rfl, e⟩; subst e)
              | (go_at_call 41; refine (HQ2.out _).mono ?_; rintro e w3 ⟨rfl, e⟩; subst e)
              | fail)
            go_ret
            exact ⟨congrArg (fun z => Ending.returned (Value.int IntKind.i64 z)) HE.out.symm, HB.out⟩
          · rw [decide_eq_false hk1] at HQ1
            generalize (Ep.pr l i).ep = pe at *
            clear hR hb hk hk1
            go_wp2_with (first
              | (go_at_call 40; refine (HQ1.out _).mono ?_; rintro e w3 ⟨rfl, e⟩; subst e)
              | fail)
            go_ret
            exact ⟨congrArg (fun z => Ending.returned (Value.int IntKind.i64 z)) HE.out.symm, HB.out⟩
      · obtain rfl : i = n := by omega
        have hlt : decide ((i : Int) < i) = false := decide_eq_false (by omega)
        clear hR hb
        go_wp2_with fail
        go_loopw [4] (fun kv wq => ∃ j : Nat, 1 ≤ j ∧ j ≤ max i 1 ∧ kv = .int .i64 j ∧ (∀ k, k + 1 < j → Ep.step (Ep.pr l k) (Ep.pr l (k + 1))) ∧ Below w.heap.size w wq) (fun kv _ => i - (intOf kv).toNat)
        case atStart => exact ⟨1, Nat.le_refl _, by omega, rfl, fun j h => by omega, HB.out⟩
        case round =>
          obtain ⟨j, hj1, hjn, rfl, hS, hb⟩ := hrel
          have HSJ := hide hS
          have HBJ := hide hb
          by_cases hji : j < i
          · obtain ⟨m, rfl⟩ : ∃ m, j = m + 1 := ⟨j - 1, by omega⟩
            obtain ⟨g, f, rfl, k1, k2⟩ := HAT.out wr hb m (by omega)
            obtain ⟨g', f', e', k3, k4⟩ := HAT.out wr hb (m + 1) hji
            injection e' with e'; injection e' with e1 e2; subst e1 e2
            have hlt2 : decide ((m : Int) + 1 < (i : Int)) = true := decide_eq_true (by omega)
            have hw1 : IntKind.i64.wrap ((m : Int) + 1 - 1) = (m : Int) := by rw [IntKind.wrap_i64]; omega
            have hw2 : IntKind.i64.wrap (m : Int) = (m : Int) := by rw [IntKind.wrap_i64]; omega
            have hw3 : IntKind.i64.wrap ((m : Int) + 1 + 1) = (m : Int) + 1 + 1 := by rw [IntKind.wrap_i64]; omega
            have HE : Hid (¬ Ep.step (Ep.pr l m) (Ep.pr l (m + 1)) → r = 103) := hide fun hk => HR2.out HRI.out m hji hk
            have HST : Hid (Ep.step (Ep.pr l m) (Ep.pr l (m + 1)) ↔ (Ep.pr l m).ep < (Ep.pr l (m + 1)).ep ∧ (Ep.pr l m).st < (Ep.pr l (m + 1)).st) := hide Iff.rfl
            obtain ⟨e1, he1⟩ : ∃ e1, e1 = (Ep.pr l m).ep := ⟨_, rfl⟩
            obtain ⟨e2, he2⟩ : ∃ e2, e2 = (Ep.pr l (m + 1)).ep := ⟨_, rfl⟩
            obtain ⟨t1, ht1⟩ : ∃ t1, t1 = (Ep.pr l m).st := ⟨_, rfl⟩
            obtain ⟨t2, ht2⟩ : ∃ t2, t2 = (Ep.pr l (m + 1)).st := ⟨_, rfl⟩
            rw [← he1] at k1 HST
            rw [← he2] at k3 HST
            rw [← ht1] at k2 HST
            rw [← ht2] at k4 HST
            clear hS hb he1 he2 ht1 ht2
            by_cases q1 : e2 ≤ e1
            · have d1 : decide (e2 ≤ e1) = true := decide_eq_true q1
              have HX := hide (HE.out fun k => by have := (HST.out.1 k).1; omega)
              clear q1
              go_wp2_with fail
              go_quiet (fail)
              go_wp2_with fail
              go_ret
              exact ⟨congrArg (fun z => Ending.returned (Value.int IntKind.i64 z)) HX.out.symm, below_drewN HBJ.out _⟩
            · have d1 : decide (e2 ≤ e1) = false := decide_eq_false q1
              by_cases q2 : t2 ≤ t1
              · have d2 : decide (t2 ≤ t1) = true := decide_eq_true q2
                have HX := hide (HE.out fun k => by have := (HST.out.1 k).2; omega)
                clear q1 q2
                go_wp2_with fail
                go_quiet (fail)
                go_wp2_with fail
                go_ret
                exact ⟨congrArg (fun z => Ending.returned (Value.int IntKind.i64 z)) HX.out.symm, below_drewN HBJ.out _⟩
              · have d2 : decide (t2 ≤ t1) = false := decide_eq_false q2
                have HX := hide (HST.out.2 ⟨by omega, by omega⟩)
                clear q1 q2
                go_wp2_with fail
                go_quiet (fail)
                go_wp2_with fail
                go_roundw
                case rel => exact ⟨m + 1 + 1, by omega, by omega, by go_num, fun k hk => by
                  by_cases e : k = m
                  · rw [e]; exact HX.out
                  · exact HSJ.out k (by omega), below_drewN HBJ.out _⟩
                case measure => simp [intOf]; omega
          · have hlt2 : decide ((j : Int) < (i : Int)) = false := decide_eq_false (by omega)
            have HX := hide (HR0.out HRI.out fun k hk => HSJ.out k (by omega))
            clear hS hb
            go_wp2_with fail
            go_ret
            exact ⟨congrArg (fun z => Ending.returned (Value.int IntKind.i64 z)) HX.out.symm, HBJ.out⟩

end Go.Proofs.YtplpakdbahlgaaaDoor

namespace Go.Proofs.YtplpakdbahlgaaaDoor
open Go.RowKit

theorem own_lastEp {w : World} {base m : Nat} {L : List Ep.Pr} {q : Ep.Pr} {v : Value} (e : Int) (hm : L.length = m) (ho : OwnP w base v (L ++ [q])) :
    ∃ g c cur, v = .slice (some ⟨g, 0, none⟩) (m + 1) c ∧ base ≤ g ∧ w.heap[g]? = some (.cells cur 59 (0, 0)) ∧ w.cell? ⟨g, m * 2, none⟩ = some (.int .i64 q.ep) ∧ w.cell? ⟨g, m * 2 + 1, none⟩ = some (.int .i64 q.st) ∧ OwnP (w.setCell ⟨g, m * 2, none⟩ (.int .i64 e)) base (.slice (some ⟨g, 0, none⟩) (m + 1) c) (L ++ [⟨e, q.st⟩]) := by
  subst hm
  obtain ⟨A, c1, hv, hp, -, -⟩ := pairs_at ho
  rcases ho.2 with ⟨_, e0⟩ | ⟨g, cap, cur, e1, hb, hh, hcap, hmx, hsz, hx⟩
  · simp at e0
  · rw [hv] at e1
    injection e1 with e2 e3 e4
    subst e2 e4
    have hl : (L ++ [q]).length = L.length + 1 := by simp
    obtain ⟨g', f', e', -, k0, k1⟩ := hp.at_ L.length (by omega)
    injection e' with e'
    injection e' with e5 e6
    subst e5 e6
    rw [Ep.pr_right (Nat.le_refl _), Nat.sub_self] at k0 k1
    rw [Nat.zero_add] at k0 k1
    refine ⟨g, c1, cur, by rw [hv, hl], hb, hh, k0, k1, ?_⟩
    refine ⟨by rw [prs_len], .inr ⟨g, c1, _, by simp, hb, heap_setCell_same w g _ _ _ _ hh, by simpa using hcap, hmx, by simpa using hsz, ?_⟩⟩
    rw [show (L ++ [q]).length = (L ++ [(⟨e, q.st⟩ : Ep.Pr)]).length by simp] at hx
    rw [Array.toList_setIfInBounds, List.take_set, hx]
    simp only [List.flatMap_append, List.flatMap_cons, List.flatMap_nil, List.append_nil]
    rw [List.set_append_right _ _ (by rw [prs_len]; exact Nat.le_refl _), prs_len, Nat.sub_self]
    rfl

set_option maxRecDepth 100000 in
set_option maxHeartbeats 4000000 in
theorem refBegin_any (A : Option Addr) (c n : Nat) (l : List Ep.Pr) (e s : Int) (w : World) (hn : l.length = n) (hok : Ep.Ok l) (h : PrAt w A c l) :
    Calls Tryd.prog 17 #[.slice A n c, .int .i64 e, .int .i64 s] w fun r w' => ∃ v, r = .returned (.tuple #[v, .int .i64 (codeR (Ep.begin l e s).1)]) ∧ Below w.heap.size w w' ∧ (v = .slice A n c ∧ (Ep.begin l e s).2 = l ∨ OwnP w' w.heap.size v (Ep.begin l e s).2) := by
  have HQ1 := hide (fun V => rightEp_any e V)
  have HQ2 := hide (fun V => rightSt_any s V)
  have hle := hn ▸ h.le
  have hlen := hn ▸ hok.len
  obtain ⟨r, hr⟩ : ∃ r, r = Ep.begin l e s := ⟨_, rfl⟩
  rw [← hr]
  by_cases hk : Ep.right ⟨e, s⟩
  · rw [decide_eq_true hk.1] at HQ1
    rw [decide_eq_true hk.2] at HQ2
    have HPR := hide (fun V (hb : Below w.heap.size w V) => refPairs_any A c n l V hn (by omega) (h.below hb))
    cases n with
    | zero =>
      have hl0 : l = [] := List.eq_nil_of_length_eq_zero hn
      have HR : Hid (r = (none, [⟨e, s⟩])) := hide (by rw [hr]; unfold Ep.begin; rw [if_neg (fun x => x hk), if_pos hl0])
      rw [hl0] at HPR
      clear h hok hn hr hk hl0
      go_enter Tryd.func17, Tryd.ntmps17
      go_wp2_with (first
        | (go_at_call 40; refine (HQ1.out _).mono ?_; rintro e w3 ⟨rfl, e⟩; subst e)
        | (go_at_call 41; refine (HQ2.out _).mono ?_; rintro e w3 ⟨rfl, e⟩; subst e)
        | (go_at_call 14; refine (HPR.out _ (Below.refl _ _)).mono ?_; rintro _ w3 ⟨v3, rfl, ho3, hb3⟩; have HB3 := hide hb3; have HO3 := hide ho3; have HOA : Hid (World.ownsRow (w3.alloc (.cells #[.int .i64 e, .int .i64 s] 59)) w.heap.size 59 2 v3 0 []) := hide (World.ownsRow.alloc ho3 _); clear ho3 hb3)
        | (at_builtin; refine wpList_appG (w := w3.alloc _) rfl 22 59 2 16 _ (by kernel_rfl) pair_info rfl (by omega) (.tmp 68) (.tmp 72) rfl w.heap.size v3 0 [] rfl HOA.out ⟨w3.heap.size, 0, none⟩ 1 1 (prCells ⟨e, s⟩) rfl rfl (news2 (w := w3)) (prs_one [⟨e, s⟩]) (by simp [maxLen]) (by omega) (by have := HB3.out.size; simp; omega) ?_; intro v5 w5 ho5 hg5 hv5)
        | fail)
      have hbb : Below w.heap.size w w5 := (balloc HB3.out _).grown hg5 (by have := HB3.out.size; simp; omega) (fun g hg => (HOA.out.lt g hg).1)
      go_ret2
      rw [HR.out]
      exact ⟨_, rfl, hbb, .inr ho5⟩
    | succ m =>
      obtain ⟨g, f, rfl, -, k0, k1⟩ := h.at_ m (by omega)
      obtain ⟨q, hq⟩ : ∃ q, q = Ep.pr l m := ⟨_, rfl⟩
      have hne : l ≠ [] := fun x => by rw [x] at hn; simp at hn
      have hlq : Ep.last l = q := by unfold Ep.last; rw [hn, hq]; rfl
      have hce : Ep.cutEnd l q.st = l.take m := by
        have := Ep.cutEnd_last hok.rise hne
        rw [hlq, hn] at this
        unfold Ep.cutEnd
        rw [this]; rfl
      have hsp : l = l.take m ++ [q] := by
        have := Ep.take_succ (l := l) (i := m) (by omega)
        rw [List.take_of_length_le (by omega)] at this
        rw [hq]; exact this
      have hlm : (l.take m).length = m := by rw [List.length_take]; omega
      have HR : Hid (r = if e < q.ep then (some 13, l) else if e = q.ep then (none, l) else if s < q.st then (some 2, l) else if 256 ≤ m + 1 then (some 3, l) else if s = q.st then (none, Ep.cutEnd l s ++ [⟨e, s⟩]) else (none, l ++ [⟨e, s⟩])) := hide (by rw [hr]; unfold Ep.begin; rw [if_neg (fun x => x hk), if_neg hne, hlq, hn])
      rw [← hq] at k0 k1
      have HCE := hide hce
      have HSP := hide hsp
      have HLM := hide hlm
      have HLN := hide hn
      obtain ⟨qe, qs⟩ := q
      simp only at k0 k1 HR HCE
      obtain ⟨W1, hW1⟩ : ∃ W1, W1 = w.alloc (.cells #[.int .i64 qe, .int .i64 qs] 59) := ⟨_, rfl⟩
      have hb1 : Below w.heap.size w W1 := by rw [hW1]; exact balloc (Below.refl _ _) _
      have hbx : W1.heap[w.heap.size]? = some (.cells #[.int .i64 qe, .int .i64 qs] 59 (0, 0)) := by rw [hW1]; exact heap_alloc_new _ _
      have y0 := box_cell hbx 0
      have y1 := box_cell hbx 1
      have HW1 := hide hW1
      have HB1 := hide hb1
      have hwm : IntKind.i64.wrap ((m : Int) + 1 - 1) = (m : Int) := by rw [IntKind.wrap_i64]; omega
      have hwn : IntKind.i64.wrap (m : Int) = (m : Int) := by rw [IntKind.wrap_i64]; omega
      have hpos : decide ((0 : Int) < (m : Int) + 1) = true := decide_eq_true (by omega)
      clear h hok hn hr hk hq hne hlq hce hsp hlm hW1 hb1 hbx
      by_cases q1 : e < qe
      · have d1 : decide (e < qe) = true := decide_eq_true q1
        have HX := hide (HR.out.trans (if_pos q1))
        clear HR q1
        go_enter Tryd.func17, Tryd.ntmps17
        go_upto_region 6 with (first
          | (go_at_call 40; refine (HQ1.out _).mono ?_; rintro e w3 ⟨rfl, e⟩; subst e)
          | (go_at_call 41; refine (HQ2.out _).mono ?_; rintro e w3 ⟨rfl, e⟩; subst e)
          | fail)
        rw [← HW1.out]
        go_wp2_with fail
        go_ret2
        rw [HX.out]
        exact ⟨_, rfl, HB1.out, .inl ⟨rfl, rfl⟩⟩
      have HR2 := hide (HR.out.trans (if_neg q1))
      have d1 : decide (e < qe) = false := decide_eq_false q1
      clear HR q1
      by_cases q2 : e = qe
      · have d2 : (e == qe) = true := by simp; exact q2
        have HX := hide (HR2.out.trans (if_pos q2))
        clear HR2 q2
        go_enter Tryd.func17, Tryd.ntmps17
        go_upto_region 6 with (first
          | (go_at_call 40; refine (HQ1.out _).mono ?_; rintro e w3 ⟨rfl, e⟩; subst e)
          | (go_at_call 41; refine (HQ2.out _).mono ?_; rintro e w3 ⟨rfl, e⟩; subst e)
          | fail)
        rw [← HW1.out]
        go_wp2_with fail
        go_ret2
        rw [HX.out]
        exact ⟨_, rfl, HB1.out, .inl ⟨rfl, rfl⟩⟩
      have HR3 := hide (HR2.out.trans (if_neg q2))
      have d2 : (e == qe) = false := by simp; exact q2
      clear HR2 q2
      by_cases q3 : s < qs
      · have d3 : decide (s < qs) = true := decide_eq_true q3
        have HX := hide (HR3.out.trans (if_pos q3))
        clear HR3 q3
        go_enter Tryd.func17, Tryd.ntmps17
        go_upto_region 6 with (first
          | (go_at_call 40; refine (HQ1.out _).mono ?_; rintro e w3 ⟨rfl, e⟩; subst e)
          | (go_at_call 41; refine (HQ2.out _).mono ?_; rintro e w3 ⟨rfl, e⟩; subst e)
          | fail)
        rw [← HW1.out]
        go_wp2_with fail
        go_ret2
        rw [HX.out]
        exact ⟨_, rfl, HB1.out, .inl ⟨rfl, rfl⟩⟩
      have HR4 := hide (HR3.out.trans (if_neg q3))
      have d3 : decide (s < qs) = false := decide_eq_false q3
      clear HR3 q3
      by_cases q4 : 256 ≤ m + 1
      · have d4 : decide ((256 : Int) ≤ (m : Int) + 1) = true := decide_eq_true (by omega)
        have HX := hide (HR4.out.trans (if_pos q4))
        clear HR4 q4
        go_enter Tryd.func17, Tryd.ntmps17
        go_upto_region 6 with (first
          | (go_at_call 40; refine (HQ1.out _).mono ?_; rintro e w3 ⟨rfl, e⟩; subst e)
          | (go_at_call 41; refine (HQ2.out _).mono ?_; rintro e w3 ⟨rfl, e⟩; subst e)
          | fail)
        rw [← HW1.out]
        go_wp2_with fail
        go_ret2
        rw [HX.out]
        exact ⟨_, rfl, HB1.out, .inl ⟨rfl, rfl⟩⟩
      have HR5 := hide (HR4.out.trans (if_neg q4))
      have d4 : decide ((256 : Int) ≤ (m : Int) + 1) = false := decide_eq_false (by omega)
      clear HR4 q4
      by_cases q5 : s = qs
      · have d5 : (qs == s) = true := by simp; exact q5.symm
        have HX := hide (HR5.out.trans (if_pos q5))
        have HCS : Hid (Ep.cutEnd l s = l.take m) := hide (by rw [q5]; exact HCE.out)
        have HQS := hide q5
        clear HR5 q5 HCE
        go_enter Tryd.func17, Tryd.ntmps17
        go_upto_region 6 with (first
          | (go_at_call 40; refine (HQ1.out _).mono ?_; rintro e w3 ⟨rfl, e⟩; subst e)
          | (go_at_call 41; refine (HQ2.out _).mono ?_; rintro e w3 ⟨rfl, e⟩; subst e)
          | fail)
        rw [← HW1.out]
        go_wp2_with (first
          | (go_at_call 14; refine (HPR.out W1 HB1.out).mono ?_; rintro _ w3 ⟨v3, rfl, ho3, hb3⟩; have ho3' := ownP_mono ho3 HB1.out.size; rw [HSP.out] at ho3'; obtain ⟨g3, c3, cur3, rfl, hg3, hh3, j0, j1, ho4⟩ := own_lastEp e HLM.out ho3'; rw [← HSP.out] at ho3'; have j2 := box_free hh3 (m * 2); have HG3 := hide hg3; have HO4 := hide ho4; have HB3 := hide (HB1.out.trans (hb3.mono HB1.out.size)); have HOA : Hid (World.ownsRow (w3.alloc (.cells #[.int .i64 e, .int .i64 s] 59)) w.heap.size 59 2 (.slice (some ⟨g3, 0, none⟩) (m + 1) c3) (m + 1) (l.flatMap prCells)) := hide (by have := World.ownsRow.alloc ho3' (.cells #[.int .i64 e, .int .i64 s] 59); rwa [HLN.out] at this); clear ho3 ho3' hb3 hh3 ho4 hg3)
          | fail)
        have hb4 : Below w.heap.size w (w3.setCell ⟨g3, m * 2, none⟩ (.int .i64 e)) := HB3.out.setCell HG3.out _
        go_ret2
        rw [HX.out, HCS.out, HQS.out]
        exact ⟨_, rfl, hb4, .inr HO4.out⟩
      · have d5 : (qs == s) = false := by simp; exact fun x => q5 x.symm
        have HX := hide (HR5.out.trans (if_neg q5))
        clear HR5 q5 HCE
        go_enter Tryd.func17, Tryd.ntmps17
        go_upto_region 6 with (first
          | (go_at_call 40; refine (HQ1.out _).mono ?_; rintro e w3 ⟨rfl, e⟩; subst e)
          | (go_at_call 41; refine (HQ2.out _).mono ?_; rintro e w3 ⟨rfl, e⟩; subst e)
          | fail)
        rw [← HW1.out]
        go_wp2_with (first
          | (go_at_call 14; refine (HPR.out W1 HB1.out).mono ?_; rintro _ w3 ⟨v3, rfl, ho3, hb3⟩; have ho3' := ownP_mono ho3 HB1.out.size; rw [HSP.out] at ho3'; obtain ⟨g3, c3, cur3, rfl, hg3, hh3, j0, j1, ho4⟩ := own_lastEp e HLM.out ho3'; rw [← HSP.out] at ho3'; have j2 := box_free hh3 (m * 2); have HG3 := hide hg3; have HO4 := hide ho4; have HB3 := hide (HB1.out.trans (hb3.mono HB1.out.size)); have HOA : Hid (World.ownsRow (w3.alloc (.cells #[.int .i64 e, .int .i64 s] 59)) w.heap.size 59 2 (.slice (some ⟨g3, 0, none⟩) (m + 1) c3) (m + 1) (l.flatMap prCells)) := hide (by have := World.ownsRow.alloc ho3' (.cells #[.int .i64 e, .int .i64 s] 59); rwa [HLN.out] at this); clear ho3 ho3' hb3 hh3 ho4 hg3)
          | (at_builtin; refine wpList_appG (w := w3.alloc _) rfl 22 59 2 16 _ (by kernel_rfl) pair_info rfl (by omega) (.tmp 68) (.tmp 72) rfl w.heap.size _ (m + 1) (l.flatMap prCells) rfl HOA.out ⟨w3.heap.size, 0, none⟩ 1 1 (prCells ⟨e, s⟩) rfl rfl (news2 (w := w3)) (prs_one [⟨e, s⟩]) (by simp [maxLen]; omega) (by omega) (by have := HB3.out.size; simp; omega) ?_; intro v5 w5 ho5 hg5 hv5)
          | fail)
        have hbb : Below w.heap.size w w5 := (balloc HB3.out _).grown hg5 (by have := HB3.out.size; simp; omega) (fun g hg => (HOA.out.lt g hg).1)
        go_ret2
        rw [HX.out]
        refine ⟨_, rfl, hbb, .inr ?_⟩
        show OwnP w5 w.heap.size v5 (l ++ [⟨e, s⟩])
        unfold OwnP
        rw [List.length_append, HLN.out, List.flatMap_append]
        exact ho5
  · have HR : Hid (r = (some 4, l)) := hide (by rw [hr]; unfold Ep.begin; rw [if_pos hk])
    by_cases hk1 : 0 ≤ e ∧ e ≤ 1073741824
    · have hk2 : ¬ (0 ≤ s ∧ s ≤ 1099511627776) := fun k => hk ⟨hk1, k⟩
      rw [decide_eq_true hk1] at HQ1
      rw [decide_eq_false hk2] at HQ2
      clear h hok hn hr hk hk1 hk2
      go_enter Tryd.func17, Tryd.ntmps17
      go_wp2_with (first
        | (go_at_call 40; refine (HQ1.out _).mono ?_; rintro e w3 ⟨rfl, e⟩; subst e)
        | (go_at_call 41; refine (HQ2.out _).mono ?_; rintro e w3 ⟨rfl, e⟩; subst e)
        | fail)
      go_ret2
      rw [HR.out]
      exact ⟨_, rfl, Below.refl _ _, .inl ⟨rfl, rfl⟩⟩
    · rw [decide_eq_false hk1] at HQ1
      clear h hok hn hr hk hk1
      go_enter Tryd.func17, Tryd.ntmps17
      go_wp2_with (first
        | (go_at_call 40; refine (HQ1.out _).mono ?_; rintro e w3 ⟨rfl, e⟩; subst e)
        | fail)
      go_ret2
      rw [HR.out]
      exact ⟨_, rfl, Below.refl _ _, .inl ⟨rfl, rfl⟩⟩
end Go.Proofs.YtplpakdbahlgaaaDoor

namespace Go.Proofs.YtplpakdbahlgaaaDoor
open Go.RowKit
namespace Ep

/-- Where a pair of a part ends. -/
def endOf (q : List Pr) (z : Int) (i : Nat) : Int := if i + 1 < q.length then (pr q (i + 1)).st else z
/-- A pair of a part lies within one of the lineage. -/
def within (l q : List Pr) (z : Int) (i : Nat) : Prop := ∃ j, j < l.length ∧ (pr l j).ep = (pr q i).ep ∧ (pr l j).st ≤ (pr q i).st ∧ (j + 1 < l.length → endOf q z i ≤ (pr l (j + 1)).st)

theorem within_of {l q : List Pr} (h : Ok l) (z : Int) (h0 : 0 < q.length) (hz : (pr q 0).st < z) (e : span l (pr q 0).st z = q) : ∀ i, i < q.length → within l q z i := fun i hi => by
  have hlen := span_len (l := l) (pr q 0).st z hz
  have hal := ahead_le l z
  have hut := upto_ahead h.rise hz
  have hql : q.length = ahead l z - (upto l (pr q 0).st - 1) := by rw [← hlen, e]
  have hsp := fun k hk hs => span_at h hz (k := k) hk hs
  rw [e] at hsp
  generalize (pr q 0).st = a at *
  obtain ⟨s, hs⟩ : ∃ s, s = upto l a - 1 := ⟨_, rfl⟩
  obtain ⟨t, ht⟩ : ∃ t, t = ahead l z := ⟨_, rfl⟩
  rw [← hs] at hsp hql
  rw [← ht] at hsp hql hal hut
  have hu := fun k (hk : k < l.length) => upto_iff h.rise a (i := k) hk
  have ha := fun k (hk : k < l.length) => ahead_iff h.rise z (i := k) hk
  rw [← ht] at ha
  have h1 := hsp (s + i) (by omega) (by omega)
  rw [show s + i - s = i by omega] at h1
  refine ⟨s + i, by omega, ?_, ?_, fun hj => ?_⟩
  · rw [h1]
    by_cases c : (pr l (s + i)).st < a
    · rw [if_pos c]
    · rw [if_neg c]
  · rw [h1]
    by_cases c : (pr l (s + i)).st < a
    · rw [if_pos c]; exact Int.le_of_lt c
    · rw [if_neg c]; exact Int.le_refl _
  · unfold endOf
    by_cases hi1 : i + 1 < q.length
    · rw [if_pos hi1]
      have h2 := hsp (s + i + 1) (by omega) (by omega)
      rw [show s + i + 1 - s = i + 1 by omega] at h2
      have hns : ¬ (pr l (s + i + 1)).st < a := fun c => by have := (hu (s + i + 1) hj).1 (by omega); omega
      rw [if_neg hns] at h2
      rw [h2]; exact Int.le_refl _
    · rw [if_neg hi1]
      have := mt (ha (s + i + 1) hj).1 (by omega)
      omega
theorem of_within {l q : List Pr} (h : Ok l) (hq : Ok q) (z : Int) (h0 : 0 < q.length) (hz : (last q).st < z) (hw : ∀ i, i < q.length → within l q z i) : span l (pr q 0).st z = q := by
  have hz0 : (pr q 0).st < z := by
    have := (hq.rise.le (i := 0) (j := q.length - 1) (by omega) (by omega)).2
    unfold last at hz; omega
  obtain ⟨j0, hj0, e0, s0, n0⟩ := hw 0 h0
  -- each lies where the first one lies, and as far behind
  have all : ∀ i, i < q.length → j0 + i < l.length ∧ (pr l (j0 + i)).ep = (pr q i).ep ∧ (pr l (j0 + i)).st ≤ (pr q i).st ∧ (j0 + i + 1 < l.length → endOf q z i ≤ (pr l (j0 + i + 1)).st) ∧ (0 < i → (pr l (j0 + i)).st = (pr q i).st) := by
    intro i
    induction i with
    | zero => exact fun _ => ⟨hj0, e0, s0, n0, fun c => absurd c (Nat.lt_irrefl _)⟩
    | succ i ih =>
      intro hi
      obtain ⟨a1, a2, a3, a4, -⟩ := ih (by omega)
      obtain ⟨j, b1, b2, b3, b4⟩ := hw (i + 1) hi
      have hst := hq.rise i hi
      have hgt : j0 + i < j := by
        rcases Nat.lt_or_ge (j0 + i) j with c | c
        · exact c
        · have := (h.rise.le c a1).1
          have := hst.1; omega
      have hend := a4 (by omega)
      unfold endOf at hend
      rw [if_pos hi] at hend
      have hle : j ≤ j0 + i + 1 := by
        rcases Nat.lt_or_ge (j0 + i + 1) j with c | c
        · have := (h.rise.lt j (j0 + i + 1) c b1).2; omega
        · exact c
      obtain rfl : j = j0 + i + 1 := by omega
      exact ⟨b1, b2, b3, b4, fun _ => by show (pr l (j0 + i + 1)).st = _; omega⟩
  have hu := fun k (hk : k < l.length) => upto_iff h.rise (pr q 0).st (i := k) hk
  have ha := fun k (hk : k < l.length) => ahead_iff h.rise z (i := k) hk
  have hul := upto_le l (pr q 0).st
  have hal := ahead_le l z
  have hu0 : upto l (pr q 0).st = j0 + 1 := by
    have c1 := (hu j0 hj0).1 s0
    rcases Nat.lt_or_ge (j0 + 1) (upto l (pr q 0).st) with c | c
    · exfalso
      have c2 := (hu (j0 + 1) (by omega)).2 c
      have c3 := n0 (by omega)
      unfold endOf at c3
      by_cases hi1 : 0 + 1 < q.length
      · rw [if_pos hi1] at c3
        have := (hq.rise 0 hi1).2; omega
      · rw [if_neg hi1] at c3; omega
    · omega
  obtain ⟨m, hm⟩ : ∃ m, q.length = m + 1 := ⟨q.length - 1, by omega⟩
  have ht0 : ahead l z = j0 + q.length := by
    obtain ⟨a1, a2, a3, a4, -⟩ := all m (by omega)
    have hl : last q = pr q m := by unfold last; rw [hm]; rfl
    have c1 := (ha (j0 + m) a1).1 (by rw [hl] at hz; omega)
    rcases Nat.lt_or_ge (j0 + m + 1) (ahead l z) with c | c
    · exfalso
      have c2 := (ha (j0 + m + 1) (by omega)).2 c
      have c3 := a4 (by omega)
      unfold endOf at c3
      rw [if_neg (by omega)] at c3
      omega
    · omega
  have hlen := span_len (l := l) (pr q 0).st z hz0
  rw [hu0, ht0] at hlen
  refine ext_pr (by omega) fun i hi => ?_
  have hiq : i < q.length := by omega
  have h1 := span_at h hz0 (k := j0 + i) (by omega) (by omega)
  rw [hu0, show j0 + i - (j0 + 1 - 1) = i by omega] at h1
  rw [h1]
  obtain ⟨a1, a2, a3, -, a5⟩ := all i hiq
  cases i with
  | zero =>
    by_cases c : (pr l (j0 + 0)).st < (pr q 0).st
    · rw [if_pos c]; exact Pr.ext2 a2 rfl
    · rw [if_neg c]; exact Pr.ext2 a2 (by omega)
  | succ i =>
    have := (hq.rise.lt (i + 1) 0 (by omega) hiq).2
    have := a5 (by omega)
    rw [if_neg (by omega)]
    exact Pr.ext2 a2 this

/-- What Has looks at first. -/
def hasBad (q : List Pr) (z whole : Int) : Prop := bad q ≠ none ∨ q = [] ∨ z ≤ (last q).st ∨ whole < z
theorem has_bad {l q : List Pr} {z whole : Int} (h : hasBad q z whole) : has l q z whole = false := if_pos h
theorem has_not {l q : List Pr} (h : Ok l) {z whole : Int} (hb : ¬ hasBad q z whole) {i : Nat} (hi : i < q.length) (hw : ¬ within l q z i) : has l q z whole = false := by
  refine (if_neg hb).trans (if_neg ?_)
  intro e
  have hq : Ok q := bad_none.1 (by by_cases c : bad q = none; exact c; exact absurd (.inl c) hb)
  have hz : (last q).st < z := by
    have : ¬ z ≤ (last q).st := fun c => hb (.inr (.inr (.inl c)))
    omega
  have hz0 : (pr q 0).st < z := by
    have := (hq.rise.le (i := 0) (j := q.length - 1) (by omega) (by omega)).2
    unfold last at hz; omega
  exact hw (within_of h z (by omega) hz0 e i hi)
theorem has_all {l q : List Pr} (h : Ok l) {z whole : Int} (hb : ¬ hasBad q z whole) (hw : ∀ i, i < q.length → within l q z i) : has l q z whole = true := by
  refine (if_neg hb).trans (if_pos ?_)
  have hq : Ok q := bad_none.1 (by by_cases c : bad q = none; exact c; exact absurd (.inl c) hb)
  have h0 : 0 < q.length := by
    rcases Nat.eq_zero_or_pos q.length with c | c
    · exact absurd (.inr (.inl (List.eq_nil_of_length_eq_zero c))) hb
    · exact c
  exact of_within h hq z h0 (by have : ¬ z ≤ (last q).st := fun c => hb (.inr (.inr (.inl c))); omega) hw
end Ep
end Go.Proofs.YtplpakdbahlgaaaDoor

namespace Go.Proofs.YtplpakdbahlgaaaDoor
open Go.RowKit

set_option maxRecDepth 100000 in
set_option maxHeartbeats 8000000 in
theorem refHas_any (A A' : Option Addr) (c c' n n' : Nat) (l q : List Ep.Pr) (z whole : Int) (w : World) (hn : l.length = n) (hn' : q.length = n') (hok : Ep.Ok l) (h : PrAt w A c l) (h' : PrAt w A' c' q) :
    Calls Tryd.prog 51 #[.slice A n c, .slice A' n' c', .int .i64 z, .int .i64 whole] w fun e w' => e = .returned (.bool (Ep.has l q z whole)) ∧ Below w.heap.size w w' := by
  have HV := hide (refValid_any A' c' q w h')
  rw [hn'] at HV
  have hle := hn ▸ h.le
  have hle' := hn' ▸ h'.le
  have hlen := hn ▸ hok.len
  obtain ⟨res, hres⟩ : ∃ res, res = Ep.has l q z whole := ⟨_, rfl⟩
  rw [← hres]
  cases hb : Ep.bad q with
  | some j =>
    have HR : Hid (res = false) := hide (by rw [hres]; exact Ep.has_bad (.inl (by rw [hb]; simp)))
    rw [hb] at HV
    simp only [codeR] at HV
    have d0 : (((101 : Int) + (j : Nat)) != 0) = true := by simp; omega
    clear h h' hn hn' hok hres hb
    go_enter Tryd.func51, Tryd.ntmps51
    go_wp2_with (first
      | (go_at_call 12; refine HV.out.mono ?_; rintro e w2 ⟨rfl, hb2⟩; have HB2 := hide hb2; clear hb2)
      | fail)
    go_ret
    exact ⟨congrArg (fun z => Ending.returned (Value.bool z)) HR.out.symm, HB2.out⟩
  | none =>
    have hokq := Ep.bad_none.1 hb
    have hlen' := hn' ▸ hokq.len
    rw [hb] at HV
    simp only [codeR] at HV
    cases n' with
    | zero =>
      have HR : Hid (res = false) := hide (by rw [hres]; exact Ep.has_bad (.inr (.inl (List.eq_nil_of_length_eq_zero hn'))))
      clear h h' hn hn' hok hres hb
      go_enter Tryd.func51, Tryd.ntmps51
      go_wp2_with (first
        | (go_at_call 12; refine HV.out.mono ?_; rintro e w2 ⟨rfl, hb2⟩; have HB2 := hide hb2; clear hb2)
        | fail)
      go_ret
      exact ⟨congrArg (fun z => Ending.returned (Value.bool z)) HR.out.symm, HB2.out⟩
    | succ m =>
      have HAT := hide h.stays
      have HATQ := hide h'.stays
      rw [hn] at HAT
      rw [hn'] at HATQ
      have hlast : Ep.last q = Ep.pr q m := by unfold Ep.last; rw [hn']; rfl
      have hwm : IntKind.i64.wrap ((m : Int) + 1 - 1) = (m : Int) := by rw [IntKind.wrap_i64]; omega
      have hwn : IntKind.i64.wrap (m : Int) = (m : Int) := by rw [IntKind.wrap_i64]; omega
      have hm0 : (((m : Int) + 1) == 0) = false := by rw [beq_eq_false_iff_ne]; omega
      by_cases c1 : z ≤ (Ep.pr q m).st
      · have HR : Hid (res = false) := hide (by rw [hres]; exact Ep.has_bad (.inr (.inr (.inl (by rw [hlast]; exact c1)))))
        have d1 : decide (z ≤ (Ep.pr q m).st) = true := decide_eq_true c1
        clear h h' hn hn' hok hres hb c1 hlast hokq
        go_enter Tryd.func51, Tryd.ntmps51
        go_wp2_with (first
          | (go_at_call 12; refine HV.out.mono ?_; rintro e w2 ⟨rfl, hb2⟩; have HB2 := hide hb2; obtain ⟨gm, fm, rfl, km0, km1⟩ := HATQ.out _ hb2 m (Nat.lt_succ_self m); clear hb2)
          | fail)
        go_ret
        exact ⟨congrArg (fun z => Ending.returned (Value.bool z)) HR.out.symm, HB2.out⟩
      have d1 : decide (z ≤ (Ep.pr q m).st) = false := decide_eq_false c1
      by_cases c2 : whole < z
      · have HR : Hid (res = false) := hide (by rw [hres]; exact Ep.has_bad (.inr (.inr (.inr c2))))
        have d2 : decide (whole < z) = true := decide_eq_true c2
        clear h h' hn hn' hok hres hb c1 c2 hlast hokq
        go_enter Tryd.func51, Tryd.ntmps51
        go_wp2_with (first
          | (go_at_call 12; refine HV.out.mono ?_; rintro e w2 ⟨rfl, hb2⟩; have HB2 := hide hb2; obtain ⟨gm, fm, rfl, km0, km1⟩ := HATQ.out _ hb2 m (Nat.lt_succ_self m); clear hb2)
          | fail)
        go_ret
        exact ⟨congrArg (fun z => Ending.returned (Value.bool z)) HR.out.symm, HB2.out⟩
      have d2 : decide (whole < z) = false := decide_eq_false c2
      have hnb : ¬ Ep.hasBad q z whole := fun x => by
        rcases x with x | x | x | x
        · exact x hb
        · rw [x] at hn'; simp at hn'
        · rw [hlast] at x; exact c1 x
        · exact c2 x
      have HNOT : Hid (∀ i, i < m + 1 → ¬ Ep.within l q z i → res = false) := hide fun i hi hw => by rw [hres]; exact Ep.has_not hok hnb (by omega) hw
      have HALL : Hid ((∀ i, i < m + 1 → Ep.within l q z i) → res = true) := hide fun hw => by rw [hres]; exact Ep.has_all hok hnb fun i hi => hw i (by omega)
      have HINJ : Hid (∀ i j, i < n → j < n → (Ep.pr l i).ep = (Ep.pr l j).ep → i = j) := hide fun i j hi hj e => hok.rise.ep_inj (by omega) (by omega) e
      have HN := hide hn
      have HN' := hide hn'
      obtain ⟨sm, hsm⟩ : ∃ sm, sm = (Ep.pr q m).st := ⟨_, rfl⟩
      have HSM := hide hsm
      rw [← hsm] at d1
      clear h h' hn hn' hok hres hb c1 c2 hlast hokq hnb hsm
      go_enter Tryd.func51, Tryd.ntmps51
      go_wp2_with (first
        | (go_at_call 12; refine HV.out.mono ?_; rintro e w2 ⟨rfl, hb2⟩; have HB2 := hide hb2; obtain ⟨gm, fm, rfl, km0, km1⟩ := HATQ.out _ hb2 m (Nat.lt_succ_self m); rw [← HSM.out] at km1; clear hb2)
        | fail)
      go_loopw [9] (fun iv wr => ∃ i : Nat, i ≤ m + 1 ∧ iv = .int .i64 i ∧ (∀ x, x < i → Ep.within l q z x) ∧ Below w.heap.size w wr) (fun iv _ => m + 1 - (intOf iv).toNat)
      case atStart => exact ⟨0, Nat.zero_le _, rfl, fun x hx => absurd hx (Nat.not_lt_zero _), HB2.out⟩
      case round =>
        obtain ⟨i, hi, rfl, hW, hb⟩ := hrel
        have HWI := hide hW
        have HB := hide hb
        by_cases hlt : i < m + 1
        · have e1 : decide ((i : Int) < (m : Int) + 1) = true := decide_eq_true (by omega)
          have hwi : IntKind.i64.wrap ((i : Int) + 1) = (i : Int) + 1 := by rw [IntKind.wrap_i64]; omega
          by_cases hi1 : i + 1 < m + 1
          · obtain ⟨gq, fq, e', -, k3⟩ := HATQ.out _ hb (i + 1) hi1
            obtain ⟨E, hE0⟩ : ∃ E, E = (Ep.pr q (i + 1)).st := ⟨_, rfl⟩
            rw [← hE0] at k3
            have hE : Ep.endOf q z i = E := by unfold Ep.endOf; rw [if_pos (by have := HN'.out; omega), hE0]
            have e3 : decide ((i : Int) + 1 < (m : Int) + 1) = true := decide_eq_true (by omega)
            have e4 : decide ((i : Int) < (m : Int)) = true := decide_eq_true (by omega)
            injection e' with e'
            injection e' with e5 e6
            subst e5 e6
            clear hE0
            have HE : Hid (Ep.endOf q z i = E) := hide hE
            have HDEC : Hid (∀ V, Below w.heap.size w V → V.cell? ⟨gm, fm + i * 2, none⟩ = some (.int .i64 (Ep.pr q i).ep) ∧ V.cell? ⟨gm, fm + i * 2 + 1, none⟩ = some (.int .i64 (Ep.pr q i).st)) := hide fun V hV => by
              obtain ⟨gq, fq, e', k1, k2⟩ := HATQ.out V hV i hlt
              injection e' with e'
              injection e' with e5 e6
              subst e5 e6
              exact ⟨k1, k2⟩
            have HWN : Hid (Ep.within l q z i ↔ ∃ j, j < n ∧ (Ep.pr l j).ep = (Ep.pr q i).ep ∧ (Ep.pr l j).st ≤ (Ep.pr q i).st ∧ (j + 1 < n → E ≤ (Ep.pr l (j + 1)).st)) := hide (by unfold Ep.within; rw [hE, HN.out])
            have HNI := hide (HNOT.out i hlt)
            obtain ⟨qe, hqe⟩ : ∃ qe, qe = (Ep.pr q i).ep := ⟨_, rfl⟩
            obtain ⟨qs, hqs⟩ : ∃ qs, qs = (Ep.pr q i).st := ⟨_, rfl⟩
            rw [← hqe, ← hqs] at HDEC HWN
            clear hE hW hb hqe hqs
            go_wp2_with fail
            go_loopw [11, 12] (fun jv kv wr => ∃ (k : Nat) (jz : Int), k ≤ n ∧ kv = .int .i64 k ∧ jv = .int .i64 jz ∧ ((jz = -1 ∧ ∀ x, x < k → (Ep.pr l x).ep ≠ qe) ∨ ∃ j : Nat, jz = j ∧ j < k ∧ (Ep.pr l j).ep = qe) ∧ Below w.heap.size w wr) (fun _ kv _ => n - (intOf kv).toNat)
            case atStart => exact ⟨0, -1, Nat.zero_le _, rfl, rfl, .inl ⟨rfl, fun x hx => absurd hx (Nat.not_lt_zero _)⟩, HB.out⟩
            case round =>
              obtain ⟨k, jz, hk, rfl, rfl, hj, hbk⟩ := hrel
              have HJ := hide hj
              have HBK := hide hbk
              by_cases hkn : k < n
              · have f1 : decide ((k : Int) < n) = true := decide_eq_true (by omega)
                obtain ⟨g, f, rfl, y0, y1⟩ := HAT.out _ hbk k hkn
                obtain ⟨x0, x1⟩ := HDEC.out _ hbk
                obtain ⟨le, hle9⟩ : ∃ le, le = (Ep.pr l k).ep := ⟨_, rfl⟩
                rw [← hle9] at y0
                have HL9 := hide hle9
                by_cases heq : le = qe
                · have f2 : (le == qe) = true := by simp; exact heq
                  have HEQ := hide heq
                  clear hj hbk hle9 heq y1 x1
                  go_wp2_with fail
                  go_quiet (fail)
                  go_wp2_with fail
                  go_roundw
                  case rel => exact ⟨k + 1, k, by omega, by go_num, rfl, .inr ⟨k, rfl, by omega, by rw [← HL9.out]; exact HEQ.out⟩, below_drewN HBK.out _⟩
                  case measure => simp [intOf]; omega
                · have f2 : (le == qe) = false := by simp; exact heq
                  have HEQ := hide heq
                  clear hj hbk hle9 heq y1 x1
                  go_wp2_with fail
                  go_quiet (fail)
                  go_wp2_with fail
                  go_roundw
                  case rel =>
                    refine ⟨k + 1, jz, by omega, by go_num, rfl, ?_, below_drewN HBK.out _⟩
                    rcases HJ.out with ⟨a1, a2⟩ | ⟨j, a1, a2, a3⟩
                    · refine .inl ⟨a1, fun x hx => ?_⟩
                      by_cases e : x = k
                      · rw [e, ← HL9.out]; exact HEQ.out
                      · exact a2 x (by omega)
                    · exact .inr ⟨j, a1, by omega, a3⟩
                  case measure => simp [intOf]; omega
              · obtain rfl : k = n := by omega
                have f1 : decide ((k : Int) < k) = false := decide_eq_false (by omega)
                rcases hj with ⟨rfl, hno⟩ | ⟨j, rfl, hjk, hje⟩
                · have HX := hide (HNI.out fun x => by obtain ⟨j, a1, a2, -⟩ := HWN.out.1 x; exact hno j a1 a2)
                  have f2 : decide ((-1 : Int) < 0) = true := rfl
                  clear hno hbk HJ
                  go_wp2_with fail
                  go_quiet (fail)
                  go_wp2_with fail
                  go_ret
                  exact ⟨congrArg (fun z => Ending.returned (Value.bool z)) HX.out.symm, below_drewN HBK.out _⟩
                · have f2 : decide ((j : Int) < 0) = false := decide_eq_false (by omega)
                  have hwj : IntKind.i64.wrap ((j : Int) + 1) = (j : Int) + 1 := by rw [IntKind.wrap_i64]; omega
                  obtain ⟨g, f, rfl, -, y1⟩ := HAT.out _ hbk j hjk
                  obtain ⟨-, x1⟩ := HDEC.out _ hbk
                  have HWJ : Hid (Ep.within l q z i ↔ (Ep.pr l j).st ≤ qs ∧ (j + 1 < k → E ≤ (Ep.pr l (j + 1)).st)) := hide ⟨fun x => by
                    obtain ⟨j', a1, a2, a3, a4⟩ := HWN.out.1 x
                    obtain rfl : j = j' := HINJ.out j j' hjk a1 (hje.trans a2.symm)
                    exact ⟨a3, a4⟩, fun x => HWN.out.2 ⟨j, hjk, hje, x.1, x.2⟩⟩
                  have HNX : Hid (j + 1 < k → wr.cell? ⟨g, f + (j + 1) * 2 + 1, none⟩ = some (.int .i64 (Ep.pr l (j + 1)).st)) := hide fun hj1 => by
                    obtain ⟨g', f', e', -, k3⟩ := HAT.out _ hbk (j + 1) hj1
                    injection e' with e'
                    injection e' with e5 e6
                    subst e5 e6
                    exact k3
                  obtain ⟨ls, hls⟩ : ∃ ls, ls = (Ep.pr l j).st := ⟨_, rfl⟩
                  rw [← hls] at y1 HWJ
                  clear hje hbk HJ hls HWN
                  by_cases c1 : qs < ls
                  · have f3 : decide (qs < ls) = true := decide_eq_true c1
                    have HX := hide (HNI.out fun x => by have := (HWJ.out.1 x).1; omega)
                    clear c1
                    go_wp2_with fail
                    go_quiet (fail)
                    go_wp2_with fail
                    go_ret
                    exact ⟨congrArg (fun z => Ending.returned (Value.bool z)) HX.out.symm, below_drewN HBK.out _⟩
                  · have f3 : decide (qs < ls) = false := decide_eq_false c1
                    by_cases hj1 : j + 1 < k
                    · have f4 : decide ((j : Int) + 1 < (k : Int)) = true := decide_eq_true (by omega)
                      have y3 := HNX.out hj1
                      obtain ⟨ln, hln⟩ : ∃ ln, ln = (Ep.pr l (j + 1)).st := ⟨_, rfl⟩
                      rw [← hln] at y3 HWJ
                      clear hln HNX
                      by_cases c2 : ln < E
                      · have f5 : decide (ln < E) = true := decide_eq_true c2
                        have HX := hide (HNI.out fun x => by have := (HWJ.out.1 x).2 hj1; omega)
                        clear c1 c2
                        go_wp2_with fail
                        go_quiet (fail)
                        go_wp2_with fail
                        go_ret
                        exact ⟨congrArg (fun z => Ending.returned (Value.bool z)) HX.out.symm, below_drewN HBK.out _⟩
                      · have f5 : decide (ln < E) = false := decide_eq_false c2
                        have HX := hide (HWJ.out.2 ⟨by omega, fun _ => by omega⟩)
                        clear c1 c2
                        go_wp2_with fail
                        go_quiet (fail)
                        go_wp2_with fail
                        go_roundw
                        case rel => exact ⟨i + 1, by omega, by go_num, fun x hx => by
                          by_cases e : x = i
                          · rw [e]; exact HX.out
                          · exact HWI.out x (by omega), below_drewN HBK.out _⟩
                        case measure => simp [intOf]; omega
                    · have f4 : decide ((j : Int) + 1 < (k : Int)) = false := decide_eq_false (by omega)
                      have HX := hide (HWJ.out.2 ⟨by omega, fun x => absurd x hj1⟩)
                      clear c1 HNX
                      go_wp2_with fail
                      go_quiet (fail)
                      go_wp2_with fail
                      go_roundw
                      case rel => exact ⟨i + 1, by omega, by go_num, fun x hx => by
                        by_cases e : x = i
                        · rw [e]; exact HX.out
                        · exact HWI.out x (by omega), below_drewN HBK.out _⟩
                      case measure => simp [intOf]; omega
          · have hE : Ep.endOf q z i = z := by unfold Ep.endOf; rw [if_neg (by have := HN'.out; omega)]
            have e3 : decide ((i : Int) + 1 < (m : Int) + 1) = false := decide_eq_false (by omega)
            have e4 : decide ((i : Int) < (m : Int)) = false := decide_eq_false (by omega)
            have HE : Hid (Ep.endOf q z i = z) := hide hE
            have HDEC : Hid (∀ V, Below w.heap.size w V → V.cell? ⟨gm, fm + i * 2, none⟩ = some (.int .i64 (Ep.pr q i).ep) ∧ V.cell? ⟨gm, fm + i * 2 + 1, none⟩ = some (.int .i64 (Ep.pr q i).st)) := hide fun V hV => by
              obtain ⟨gq, fq, e', k1, k2⟩ := HATQ.out V hV i hlt
              injection e' with e'
              injection e' with e5 e6
              subst e5 e6
              exact ⟨k1, k2⟩
            have HWN : Hid (Ep.within l q z i ↔ ∃ j, j < n ∧ (Ep.pr l j).ep = (Ep.pr q i).ep ∧ (Ep.pr l j).st ≤ (Ep.pr q i).st ∧ (j + 1 < n → z ≤ (Ep.pr l (j + 1)).st)) := hide (by unfold Ep.within; rw [hE, HN.out])
            have HNI := hide (HNOT.out i hlt)
            obtain ⟨qe, hqe⟩ : ∃ qe, qe = (Ep.pr q i).ep := ⟨_, rfl⟩
            obtain ⟨qs, hqs⟩ : ∃ qs, qs = (Ep.pr q i).st := ⟨_, rfl⟩
            rw [← hqe, ← hqs] at HDEC HWN
            clear hE hW hb hqe hqs
            go_wp2_with fail
            go_loopw [11, 12] (fun jv kv wr => ∃ (k : Nat) (jz : Int), k ≤ n ∧ kv = .int .i64 k ∧ jv = .int .i64 jz ∧ ((jz = -1 ∧ ∀ x, x < k → (Ep.pr l x).ep ≠ qe) ∨ ∃ j : Nat, jz = j ∧ j < k ∧ (Ep.pr l j).ep = qe) ∧ Below w.heap.size w wr) (fun _ kv _ => n - (intOf kv).toNat)
            case atStart => exact ⟨0, -1, Nat.zero_le _, rfl, rfl, .inl ⟨rfl, fun x hx => absurd hx (Nat.not_lt_zero _)⟩, HB.out⟩
            case round =>
              obtain ⟨k, jz, hk, rfl, rfl, hj, hbk⟩ := hrel
              have HJ := hide hj
              have HBK := hide hbk
              by_cases hkn : k < n
              · have f1 : decide ((k : Int) < n) = true := decide_eq_true (by omega)
                obtain ⟨g, f, rfl, y0, y1⟩ := HAT.out _ hbk k hkn
                obtain ⟨x0, x1⟩ := HDEC.out _ hbk
                obtain ⟨le, hle9⟩ : ∃ le, le = (Ep.pr l k).ep := ⟨_, rfl⟩
                rw [← hle9] at y0
                have HL9 := hide hle9
                by_cases heq : le = qe
                · have f2 : (le == qe) = true := by simp; exact heq
                  have HEQ := hide heq
                  clear hj hbk hle9 heq y1 x1
                  go_wp2_with fail
                  go_quiet (fail)
                  go_wp2_with fail
                  go_roundw
                  case rel => exact ⟨k + 1, k, by omega, by go_num, rfl, .inr ⟨k, rfl, by omega, by rw [← HL9.out]; exact HEQ.out⟩, below_drewN HBK.out _⟩
                  case measure => simp [intOf]; omega
                · have f2 : (le == qe) = false := by simp; exact heq
                  have HEQ := hide heq
                  clear hj hbk hle9 heq y1 x1
                  go_wp2_with fail
                  go_quiet (fail)
                  go_wp2_with fail
                  go_roundw
                  case rel =>
                    refine ⟨k + 1, jz, by omega, by go_num, rfl, ?_, below_drewN HBK.out _⟩
                    rcases HJ.out with ⟨a1, a2⟩ | ⟨j, a1, a2, a3⟩
                    · refine .inl ⟨a1, fun x hx => ?_⟩
                      by_cases e : x = k
                      · rw [e, ← HL9.out]; exact HEQ.out
                      · exact a2 x (by omega)
                    · exact .inr ⟨j, a1, by omega, a3⟩
                  case measure => simp [intOf]; omega
              · obtain rfl : k = n := by omega
                have f1 : decide ((k : Int) < k) = false := decide_eq_false (by omega)
                rcases hj with ⟨rfl, hno⟩ | ⟨j, rfl, hjk, hje⟩
                · have HX := hide (HNI.out fun x => by obtain ⟨j, a1, a2, -⟩ := HWN.out.1 x; exact hno j a1 a2)
                  have f2 : decide ((-1 : Int) < 0) = true := rfl
                  clear hno hbk HJ
                  go_wp2_with fail
                  go_quiet (fail)
                  go_wp2_with fail
                  go_ret
                  exact ⟨congrArg (fun z => Ending.returned (Value.bool z)) HX.out.symm, below_drewN HBK.out _⟩
                · have f2 : decide ((j : Int) < 0) = false := decide_eq_false (by omega)
                  have hwj : IntKind.i64.wrap ((j : Int) + 1) = (j : Int) + 1 := by rw [IntKind.wrap_i64]; omega
                  obtain ⟨g, f, rfl, -, y1⟩ := HAT.out _ hbk j hjk
                  obtain ⟨-, x1⟩ := HDEC.out _ hbk
                  have HWJ : Hid (Ep.within l q z i ↔ (Ep.pr l j).st ≤ qs ∧ (j + 1 < k → z ≤ (Ep.pr l (j + 1)).st)) := hide ⟨fun x => by
                    obtain ⟨j', a1, a2, a3, a4⟩ := HWN.out.1 x
                    obtain rfl : j = j' := HINJ.out j j' hjk a1 (hje.trans a2.symm)
                    exact ⟨a3, a4⟩, fun x => HWN.out.2 ⟨j, hjk, hje, x.1, x.2⟩⟩
                  have HNX : Hid (j + 1 < k → wr.cell? ⟨g, f + (j + 1) * 2 + 1, none⟩ = some (.int .i64 (Ep.pr l (j + 1)).st)) := hide fun hj1 => by
                    obtain ⟨g', f', e', -, k3⟩ := HAT.out _ hbk (j + 1) hj1
                    injection e' with e'
                    injection e' with e5 e6
                    subst e5 e6
                    exact k3
                  obtain ⟨ls, hls⟩ : ∃ ls, ls = (Ep.pr l j).st := ⟨_, rfl⟩
                  rw [← hls] at y1 HWJ
                  clear hje hbk HJ hls HWN
                  by_cases c1 : qs < ls
                  · have f3 : decide (qs < ls) = true := decide_eq_true c1
                    have HX := hide (HNI.out fun x => by have := (HWJ.out.1 x).1; omega)
                    clear c1
                    go_wp2_with fail
                    go_quiet (fail)
                    go_wp2_with fail
                    go_ret
                    exact ⟨congrArg (fun z => Ending.returned (Value.bool z)) HX.out.symm, below_drewN HBK.out _⟩
                  · have f3 : decide (qs < ls) = false := decide_eq_false c1
                    by_cases hj1 : j + 1 < k
                    · have f4 : decide ((j : Int) + 1 < (k : Int)) = true := decide_eq_true (by omega)
                      have y3 := HNX.out hj1
                      obtain ⟨ln, hln⟩ : ∃ ln, ln = (Ep.pr l (j + 1)).st := ⟨_, rfl⟩
                      rw [← hln] at y3 HWJ
                      clear hln HNX
                      by_cases c2 : ln < z
                      · have f5 : decide (ln < z) = true := decide_eq_true c2
                        have HX := hide (HNI.out fun x => by have := (HWJ.out.1 x).2 hj1; omega)
                        clear c1 c2
                        go_wp2_with fail
                        go_quiet (fail)
                        go_wp2_with fail
                        go_ret
                        exact ⟨congrArg (fun z => Ending.returned (Value.bool z)) HX.out.symm, below_drewN HBK.out _⟩
                      · have f5 : decide (ln < z) = false := decide_eq_false c2
                        have HX := hide (HWJ.out.2 ⟨by omega, fun _ => by omega⟩)
                        clear c1 c2
                        go_wp2_with fail
                        go_quiet (fail)
                        go_wp2_with fail
                        go_roundw
                        case rel => exact ⟨i + 1, by omega, by go_num, fun x hx => by
                          by_cases e : x = i
                          · rw [e]; exact HX.out
                          · exact HWI.out x (by omega), below_drewN HBK.out _⟩
                        case measure => simp [intOf]; omega
                    · have f4 : decide ((j : Int) + 1 < (k : Int)) = false := decide_eq_false (by omega)
                      have HX := hide (HWJ.out.2 ⟨by omega, fun x => absurd x hj1⟩)
                      clear c1 HNX
                      go_wp2_with fail
                      go_quiet (fail)
                      go_wp2_with fail
                      go_roundw
                      case rel => exact ⟨i + 1, by omega, by go_num, fun x hx => by
                        by_cases e : x = i
                        · rw [e]; exact HX.out
                        · exact HWI.out x (by omega), below_drewN HBK.out _⟩
                      case measure => simp [intOf]; omega
        · obtain rfl : i = m + 1 := by omega
          have e1 : decide (((m + 1 : Nat) : Int) < (m : Int) + 1) = false := decide_eq_false (by omega)
          have e2 : decide (((m : Int) + 1) < (m : Int) + 1) = false := decide_eq_false (by omega)
          have HX := hide (HALL.out HWI.out)
          clear hW hb
          go_wp2_with fail
          go_ret
          exact ⟨congrArg (fun z => Ending.returned (Value.bool z)) HX.out.symm, HB.out⟩
end Go.Proofs.YtplpakdbahlgaaaDoor
