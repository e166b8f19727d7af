/-
  Package epoch: Span.
  slices.Equal at pairs; Has.
  The statements' own copy of pairs; appends of pairs; Span and Has beside other lineages.
-/
import Derived.Test.YtplpakdbahlgaaaDoorE4
import Derived.Test.YtplpakdbahlgaaaDoorE3
import Derived.Laws.StructEq
import Derived.Deep.LoopGhost
import Derived.Test.YtplpakdbahlgaaaDoorE1
namespace Go.Proofs.YtplpakdbahlgaaaDoor
open Go.RowKit Go.Lib

theorem ownP_mono {w : World} {base base' : Nat} {v : Value} {l : List Ep.Pr} (h : OwnP w base v l) (hb : base' ≤ base) : OwnP w base' v l := by
  refine ⟨h.1, ?_⟩
  rcases h.2 with k | ⟨g, cap, cur, e, k, r⟩
  · exact .inl k
  · exact .inr ⟨g, cap, cur, e, Nat.le_trans hb k, r⟩
theorem ownP_below {w w' : World} {base : Nat} {v : Value} {l : List Ep.Pr} (h : OwnP w base v l) (hb : Below w.heap.size w w') : OwnP w' base v l := ownsRow_same h fun g hg => hb.block g (World.ownsRow.lt h g hg).2
/-- A slot that holds a row of one's own. -/
def heldOwn (base : Nat) (l : List Ep.Pr) : Held (fun a b : World => Below a.heap.size a b) := ⟨fun v w => OwnP w base v l, fun _ _ _ h hb => ownP_below h hb⟩

set_option maxRecDepth 100000 in
set_option maxHeartbeats 2000000 in
theorem span_some (X : Nat) (l m : List Ep.Pr) (S : Nat → Prop) (a b pv : Int) (g f lo hi n c : Nat) (B : Option Addr) (w : World) (h : EpAt w X l S) (ho : Ep.Ok l) (hab : a < b) (cX : w.cell? ⟨X, 0, none⟩ = some (.slice (some ⟨g, f, none⟩) n c)) (hpv : (Ep.upto l a : Int) - 1 = pv) (hmx : max pv 0 = (lo : Int)) (hhi : Ep.ahead l b = hi) (hlh : lo ≤ hi) (hhn : hi ≤ n) (hnc : n ≤ c)
    (hm : PrAt w B (c - lo) m) (hml : m.length = hi - lo) (hm0 : (B : Option Addr) = none → m = [] ∧ c - lo = 0) (hif : (if c = lo then (some ⟨g, f, none⟩ : Option Addr) else some ⟨g, f + lo * 2, none⟩) = B) :
    Calls Tryd.prog 32 #[.pointer (some ⟨X, 0, none⟩), .int .i64 a, .int .i64 b] w fun e w' => ∃ v, e = .returned v ∧ OwnP w' w.heap.size v (Ep.front (max (Ep.pr m 0).st a) m) ∧ Below w.heap.size w w' := by
  have hlen := ho.len
  have dab : decide (b ≤ a) = false := decide_eq_false (by omega)
  have HPL := hide (fun V (hb : Below w.heap.size w V) => epPlace_any X l S a V (h.below hb) ho)
  rw [hpv] at HPL
  have HAH := hide (fun V (hb : Below w.heap.size w V) => epAhead_any X l S b V (h.below hb) ho)
  rw [hhi] at HAH
  have HCL : Hid (∀ V, Below w.heap.size w V → Calls Tryd.prog 39 #[.slice B (hi - lo) (c - lo)] V fun e w' => ∃ v, e = .returned v ∧ Below V.heap.size V w' ∧ (heldOwn w.heap.size m).p v w') := hide fun V hb => by
    have h1 := prClone_any B (c - lo) m V (by have := Ep.ahead_le l b; omega) (hm.below hb) hm0
    rw [hml] at h1
    refine h1.mono ?_
    rintro e w' ⟨v, rfl, hv, hb'⟩
    exact ⟨v, rfl, hb', ownP_mono hv hb.size⟩
  have hX := World.block_lt_of_cell? _ _ cX
  have hlc : lo ≤ c := by omega
  have hhc : hi ≤ c := by omega
  clear h ho hpv hhi hm hm0 hlen
  go_enter Tryd.func32, Tryd.ntmps32
  go_upto_region 3 with fail
  refine wp_region_guard (G := fun a b : World => Below a.heap.size a b) ⟨fun w => Below.refl _ w, fun h k => h.trans (k.mono h.size)⟩ [11, 12, 13, 14, 15, 16, 17, 18, 19, 20, 21, 22, 23, 7] (fun d => match d with
    | 11 => .is (.pointer (some ⟨X, 0, none⟩)) | 12 => .is (.pointer (some ⟨X, 0, none⟩)) | 13 => .is (.pointer (some ⟨X, 0, none⟩)) | 14 => .is (.slice (some ⟨g, f, none⟩) n c) | 15 => .is (.pointer (some ⟨X, 0, none⟩)) | 16 => .is (.int .i64 a) | 17 => .is (.int .i64 pv) | 18 => .is (.int .i64 lo) | 19 => .is (.pointer (some ⟨X, 0, none⟩)) | 20 => .is (.int .i64 b) | 21 => .is (.int .i64 hi) | 22 => .is (.slice B (hi - lo) (c - lo)) | 23 => heldOwn w.heap.size m | 7 => heldOwn w.heap.size m | _ => .is undef) (by kernel_rfl) (by kernel_rfl) (by kernel_rfl) ?_ ?_
  · simp only [StepsG]
    refine ⟨?_, ?_, ?_, ?_, ?_, ?_, ?_, ?_, ?_, ?_, ?_, ?_, ?_, ?_, trivial⟩
    all_goals
      intro ev w6 hb hev hd
      have ev0 : ev (.tmp 0) = .pointer (some ⟨X, 0, none⟩) := hev _ (by simp)
      have ev1 : ev (.tmp 1) = .int .i64 a := hev _ (by simp)
      have ev2 : ev (.tmp 2) = .int .i64 b := hev _ (by simp)
      have evf : ∀ f, ev (.func f) = .func (.func f) #[] #[] := fun f => hev _ (by simp)
      have evc : ∀ c, ev (.const c) = c := fun c => hev _ (by simp)
      have HB6 : Hid (Below w.heap.size w w6) := hide ((Below.refl w.heap.size w).drew.trans hb)
      have z1 := (HB6.out.cell (p := ⟨X, 0, none⟩) hX).trans cX
      clear hev hb 
      simp [DepsG, Held.is] at hd
      try simp [OpGuard, OpRuns, execOp, go_sem, Held.is, Below.refl, *]
    · exact HPL.out w6 HB6.out
    · exact HAH.out w6 HB6.out
    · exact HCL.out w6 HB6.out
  · intro f w9 hb hf
    have hv : OwnP w9 w.heap.size (f 7) m := hf 7 (by simp)
    obtain ⟨A9, c9, e7, hp9, -, hA9⟩ := pairs_at hv
    have HV : Hid (OwnP w9 w.heap.size (.slice A9 m.length c9) m) := hide (e7 ▸ hv)
    rw [hml] at e7
    clear hv
    have HB9 : Hid (Below w.heap.size w w9) := hide ((Below.refl w.heap.size w).drew.trans hb)
    clear hf hb
    simp only [puts, Act.put, List.setIfInBounds_toArray, List.set_cons_succ, List.set_cons_zero]
    rw [e7]
    clear e7
    generalize f 11 = q11
    generalize f 12 = q12
    generalize f 13 = q13
    generalize f 14 = q14
    generalize f 15 = q15
    generalize f 16 = q16
    generalize f 17 = q17
    generalize f 18 = q18
    generalize f 19 = q19
    generalize f 20 = q20
    generalize f 21 = q21
    generalize f 22 = q22
    generalize f 23 = q23
    clear f
    rcases Nat.eq_zero_or_pos (hi - lo) with h0 | h0
    · rw [h0] at hml
      have em := List.eq_nil_of_length_eq_zero hml
      rw [h0]
      have HEM := hide em
      clear hml em hlh hhn h0
      go_wp2_with fail
      go_ret
      refine ⟨_, rfl, ?_, HB9.out⟩
      have := HV.out
      rw [HEM.out] at this ⊢
      exact this
    · obtain ⟨g9, f9, e9, hg9, k0, k1⟩ := hp9.at_ 0 (by omega)
      obtain ⟨g2, e2, hlo⟩ := hA9 _ e9
      obtain rfl : f9 = 0 := by injection e2
      obtain rfl : g9 = g2 := by injection e2
      subst e9
      rw [Nat.zero_mul, Nat.zero_add] at k1
      have hle9 := hp9.le
      have d9 : decide ((0 : Int) < ((hi - lo : Nat) : Int)) = true := decide_eq_true (by omega)
      have fr9 : w9.frozen? ⟨g9, 1, none⟩ = false := by
        rcases HV.out.2 with ⟨e, _⟩ | ⟨g', cap, cur, e, _, hh, _⟩
        · cases e
        · injection e with e _ _
          injection e with e
          injection e with e
          subst e
          simp only [World.frozen?, hh]; simp
      have HML := hide hml
      have HLO := hide hlo
      rw [hml] at hle9
      generalize hs : (Ep.pr m 0).st = st at *
      generalize hi - lo = r at *
      clear hp9 hA9 e2 hml k0 hg9
      go_wp2_with fail
      go_ret
      have hf := own_front (max st a) HV.out (by rw [HML.out]; exact h0)
      rw [Ep.front_len, HML.out] at hf
      refine ⟨_, rfl, ?_, ?_⟩
      · unfold OwnP
        rw [Ep.front_len, HML.out]
        exact hf
      · exact HB9.out.setCell HLO.out _
set_option maxRecDepth 100000 in
set_option maxHeartbeats 2000000 in
theorem span_none (X : Nat) (l m : List Ep.Pr) (S : Nat → Prop) (a b pv : Int) (lo hi n c : Nat) (w : World) (h : EpAt w X l S) (ho : Ep.Ok l) (hab : a < b) (cX : w.cell? ⟨X, 0, none⟩ = some (.slice none n c)) (hpv : (Ep.upto l a : Int) - 1 = pv) (hmx : max pv 0 = (lo : Int)) (hhi : Ep.ahead l b = hi) (hlh : lo ≤ hi) (hhn : hi ≤ n) (hnc : n ≤ c)
    (hm : PrAt w none (c - lo) m) (hml : m.length = hi - lo) (hm0 : (none : Option Addr) = none → m = [] ∧ c - lo = 0) :
    Calls Tryd.prog 32 #[.pointer (some ⟨X, 0, none⟩), .int .i64 a, .int .i64 b] w fun e w' => ∃ v, e = .returned v ∧ OwnP w' w.heap.size v (Ep.front (max (Ep.pr m 0).st a) m) ∧ Below w.heap.size w w' := by
  have hlen := ho.len
  have dab : decide (b ≤ a) = false := decide_eq_false (by omega)
  have HPL := hide (fun V (hb : Below w.heap.size w V) => epPlace_any X l S a V (h.below hb) ho)
  rw [hpv] at HPL
  have HAH := hide (fun V (hb : Below w.heap.size w V) => epAhead_any X l S b V (h.below hb) ho)
  rw [hhi] at HAH
  have HCL : Hid (∀ V, Below w.heap.size w V → Calls Tryd.prog 39 #[.slice none (hi - lo) (c - lo)] V fun e w' => ∃ v, e = .returned v ∧ Below V.heap.size V w' ∧ (heldOwn w.heap.size m).p v w') := hide fun V hb => by
    have h1 := prClone_any none (c - lo) m V (by have := Ep.ahead_le l b; omega) (hm.below hb) hm0
    rw [hml] at h1
    refine h1.mono ?_
    rintro e w' ⟨v, rfl, hv, hb'⟩
    exact ⟨v, rfl, hb', ownP_mono hv hb.size⟩
  have hX := World.block_lt_of_cell? _ _ cX
  have hlc : lo ≤ c := by omega
  have hhc : hi ≤ c := by omega
  clear h ho hpv hhi hm hm0 hlen
  go_enter Tryd.func32, Tryd.ntmps32
  go_upto_region 3 with fail
  refine wp_region_guard (G := fun a b : World => Below a.heap.size a b) ⟨fun w => Below.refl _ w, fun h k => h.trans (k.mono h.size)⟩ [11, 12, 13, 14, 15, 16, 17, 18, 19, 20, 21, 22, 23, 7] (fun d => match d with
    | 11 => .is (.pointer (some ⟨X, 0, none⟩)) | 12 => .is (.pointer (some ⟨X, 0, none⟩)) | 13 => .is (.pointer (some ⟨X, 0, none⟩)) | 14 => .is (.slice none n c) | 15 => .is (.pointer (some ⟨X, 0, none⟩)) | 16 => .is (.int .i64 a) | 17 => .is (.int .i64 pv) | 18 => .is (.int .i64 lo) | 19 => .is (.pointer (some ⟨X, 0, none⟩)) | 20 => .is (.int .i64 b) | 21 => .is (.int .i64 hi) | 22 => .is (.slice none (hi - lo) (c - lo)) | 23 => heldOwn w.heap.size m | 7 => heldOwn w.heap.size m | _ => .is undef) (by kernel_rfl) (by kernel_rfl) (by kernel_rfl) ?_ ?_
  · simp only [StepsG]
    refine ⟨?_, ?_, ?_, ?_, ?_, ?_, ?_, ?_, ?_, ?_, ?_, ?_, ?_, ?_, trivial⟩
    all_goals
      intro ev w6 hb hev hd
      have ev0 : ev (.tmp 0) = .pointer (some ⟨X, 0, none⟩) := hev _ (by simp)
      have ev1 : ev (.tmp 1) = .int .i64 a := hev _ (by simp)
      have ev2 : ev (.tmp 2) = .int .i64 b := hev _ (by simp)
      have evf : ∀ f, ev (.func f) = .func (.func f) #[] #[] := fun f => hev _ (by simp)
      have evc : ∀ c, ev (.const c) = c := fun c => hev _ (by simp)
      have HB6 : Hid (Below w.heap.size w w6) := hide ((Below.refl w.heap.size w).drew.trans hb)
      have z1 := (HB6.out.cell (p := ⟨X, 0, none⟩) hX).trans cX
      clear hev hb 
      simp [DepsG, Held.is] at hd
      try simp [OpGuard, OpRuns, execOp, go_sem, Held.is, Below.refl, *]
    · exact HPL.out w6 HB6.out
    · exact HAH.out w6 HB6.out
    · exact HCL.out w6 HB6.out
  · intro f w9 hb hf
    have hv : OwnP w9 w.heap.size (f 7) m := hf 7 (by simp)
    obtain ⟨A9, c9, e7, hp9, -, hA9⟩ := pairs_at hv
    have HV : Hid (OwnP w9 w.heap.size (.slice A9 m.length c9) m) := hide (e7 ▸ hv)
    rw [hml] at e7
    clear hv
    have HB9 : Hid (Below w.heap.size w w9) := hide ((Below.refl w.heap.size w).drew.trans hb)
    clear hf hb
    simp only [puts, Act.put, List.setIfInBounds_toArray, List.set_cons_succ, List.set_cons_zero]
    rw [e7]
    clear e7
    generalize f 11 = q11
    generalize f 12 = q12
    generalize f 13 = q13
    generalize f 14 = q14
    generalize f 15 = q15
    generalize f 16 = q16
    generalize f 17 = q17
    generalize f 18 = q18
    generalize f 19 = q19
    generalize f 20 = q20
    generalize f 21 = q21
    generalize f 22 = q22
    generalize f 23 = q23
    clear f
    rcases Nat.eq_zero_or_pos (hi - lo) with h0 | h0
    · rw [h0] at hml
      have em := List.eq_nil_of_length_eq_zero hml
      rw [h0]
      have HEM := hide em
      clear hml em hlh hhn h0
      go_wp2_with fail
      go_ret
      refine ⟨_, rfl, ?_, HB9.out⟩
      have := HV.out
      rw [HEM.out] at this ⊢
      exact this
    · obtain ⟨g9, f9, e9, hg9, k0, k1⟩ := hp9.at_ 0 (by omega)
      obtain ⟨g2, e2, hlo⟩ := hA9 _ e9
      obtain rfl : f9 = 0 := by injection e2
      obtain rfl : g9 = g2 := by injection e2
      subst e9
      rw [Nat.zero_mul, Nat.zero_add] at k1
      have hle9 := hp9.le
      have d9 : decide ((0 : Int) < ((hi - lo : Nat) : Int)) = true := decide_eq_true (by omega)
      have fr9 : w9.frozen? ⟨g9, 1, none⟩ = false := by
        rcases HV.out.2 with ⟨e, _⟩ | ⟨g', cap, cur, e, _, hh, _⟩
        · cases e
        · injection e with e _ _
          injection e with e
          injection e with e
          subst e
          simp only [World.frozen?, hh]; simp
      have HML := hide hml
      have HLO := hide hlo
      rw [hml] at hle9
      generalize hs : (Ep.pr m 0).st = st at *
      generalize hi - lo = r at *
      clear hp9 hA9 e2 hml k0 hg9
      go_wp2_with fail
      go_ret
      have hf := own_front (max st a) HV.out (by rw [HML.out]; exact h0)
      rw [Ep.front_len, HML.out] at hf
      refine ⟨_, rfl, ?_, ?_⟩
      · unfold OwnP
        rw [Ep.front_len, HML.out]
        exact hf
      · exact HB9.out.setCell HLO.out _

set_option maxRecDepth 100000 in
theorem span_empty (X : Nat) (a b : Int) (w : World) (hab : b ≤ a) :
    Calls Tryd.prog 32 #[.pointer (some ⟨X, 0, none⟩), .int .i64 a, .int .i64 b] w fun e w' => e = .returned (.slice none 0 0) ∧ w' = w := by
  have dab : decide (b ≤ a) = true := decide_eq_true hab
  go_enter Tryd.func32, Tryd.ntmps32
  go_wp2_with fail
  go_ret
  exact ⟨rfl, rfl⟩
theorem epSpan_any (X : Nat) (l : List Ep.Pr) (S : Nat → Prop) (a b : Int) (w : World) (h : EpAt w X l S) (ho : Ep.Ok l) :
    Calls Tryd.prog 32 #[.pointer (some ⟨X, 0, none⟩), .int .i64 a, .int .i64 b] w fun e w' => ∃ v, e = .returned v ∧ OwnP w' w.heap.size v (Ep.span l a b) ∧ Below w.heap.size w w' := by
  by_cases hab : a < b
  · have hs : Ep.span l a b = Ep.front (max (Ep.pr ((l.take (Ep.ahead l b)).drop (Ep.upto l a - 1)) 0).st a) ((l.take (Ep.ahead l b)).drop (Ep.upto l a - 1)) := by unfold Ep.span; rw [if_neg (by omega)]
    rw [hs]
    have h0 := h
    obtain ⟨v, hl⟩ := h0
    obtain ⟨A, c, rfl, hp, hA0, cX⟩ := hl.cells
    have hu := Ep.upto_le l a
    have hh := Ep.ahead_le l b
    have hua := Ep.upto_ahead ho.rise hab
    have hml : ((l.take (Ep.ahead l b)).drop (Ep.upto l a - 1)).length = Ep.ahead l b - (Ep.upto l a - 1) := by rw [List.length_drop, List.length_take]; omega
    cases A with
    | none =>
      obtain ⟨rfl, rfl⟩ := hA0 rfl
      refine span_none X [] _ S a b _ (Ep.upto [] a - 1) (Ep.ahead [] b) 0 0 w h ho hab cX rfl ?_ rfl (by omega) hh (Nat.le_refl _) ?_ hml (fun _ => ⟨by simp, rfl⟩)
      · rcases Nat.eq_zero_or_pos (Ep.upto [] a) with k | k
        · rw [k]; rfl
        · omega
      · exact ⟨by simp, by simp, fun k hk => by simp at hk⟩
    | some ad =>
      obtain ⟨g, rfl⟩ : ∃ g, ad = ⟨g, 0, none⟩ := by
        obtain ⟨A', c', e, -, -, h3⟩ := pairs_at hl.own
        injection e with e1 _ _
        obtain ⟨g, e2, -⟩ := h3 _ e1.symm
        exact ⟨g, e2⟩
      refine span_some X l _ S a b _ g 0 (Ep.upto l a - 1) (Ep.ahead l b) l.length c _ w h ho hab cX rfl ?_ rfl (by omega) hh hp.le ?_ hml ?_ rfl
      · omega
      · by_cases hc : c = Ep.upto l a - 1
        · have hle := hp.le
          have em : (l.take (Ep.ahead l b)).drop (Ep.upto l a - 1) = [] := List.eq_nil_of_length_eq_zero (by rw [hml]; omega)
          rw [em]
          exact PrAt.nil _ _ _ (by have := hp.mx; omega)
        · rw [if_neg hc]
          exact hp.piece _ _ (by omega) hh
      · intro e
        split at e <;> cases e
  · have hs : Ep.span l a b = [] := by unfold Ep.span; rw [if_pos (by omega)]
    rw [hs]
    refine (span_empty X a b w (by omega)).mono ?_
    rintro e w' ⟨rfl, rfl⟩
    exact ⟨_, rfl, World.ownsRow_nil _ _ _ _, Below.refl _ _⟩
end Go.Proofs.YtplpakdbahlgaaaDoor

namespace Go.Proofs.YtplpakdbahlgaaaDoor
open Go.RowKit

theorem neq_pair (a b c d : Int) (w : World) : (binOp .neq 59 (.agg #[.int .i64 a, .int .i64 b]) (.agg #[.int .i64 c, .int .i64 d])).run Tryd.prog w = .ok (.bool (!(a == c && b == d))) w := by
  have u3 := Tryd.underlying3
  have a3 := Tryd.isAgg3
  have z3 := Tryd.sizeOf3
  have u4 := Tryd.underlying2
  have a4 := Tryd.isAgg2
  have z4 := Tryd.sizeOf2
  have hS : Tryd.prog.underlying 59 = some (.struct (Tryd.prog.fieldsOf 59)) := by kernel_rfl
  have hp : Tryd.prog.stoodInHeld 59 = false := by kernel_rfl
  rw [run_neq_struct, show (10000 : Nat) = 9999 + 1 from rfl, run_equalIn_agg w 9999 59 _ _ hS hp]
  simp only [Program.fieldsOf, Tryd.underlying59]
  go_simp
  by_cases h1 : a = c <;> by_cases h2 : b = d <;> simp [h1, h2]

set_option maxRecDepth 100000 in
set_option maxHeartbeats 2000000 in
theorem slEqual_any (A A' : Option Addr) (c c' n n' : Nat) (x y : List Ep.Pr) (w : World) (hn : x.length = n) (hn' : y.length = n') (hl : n ≤ 1000000) (hl' : n' ≤ 1000000) (h : PrAt w A c x) (h' : PrAt w A' c' y) :
    Calls Tryd.prog 65 #[.slice A n c, .slice A' n' c'] w fun e w' => (∃ r : Bool, e = .returned (.bool r) ∧ (r = true ↔ x = y)) ∧ Below w.heap.size w w' := by
  have hle := hn ▸ h.le
  have hle' := hn' ▸ h'.le
  by_cases hnn : n = n'
  · subst hnn
    have HA := hide h
    have HA' := hide h'
    have HN := hide hn
    have HN' := hide hn'
    have u1 : ((n : Int) != n) = false := bne_self_eq_false _
    clear h h' hn hn'
    go_enter Tryd.func65, Tryd.ntmps65
    go_wp2_with fail
    go_loopw [13] (fun kv wr => ∃ k : Nat, k ≤ n ∧ kv = .int .i64 k ∧ (∀ j, j < k → Ep.pr x j = Ep.pr y j) ∧ Below w.heap.size w wr) (fun kv _ => n - (intOf kv).toNat)
    case atStart => exact ⟨0, Nat.zero_le _, rfl, fun j h => absurd h (Nat.not_lt_zero _), Below.refl _ _⟩
    case round =>
      obtain ⟨k, hk, rfl, hE, hb⟩ := hrel
      have HB := hide hb
      have HE := hide hE
      by_cases hlt : k < n
      · obtain ⟨g, f, rfl, -, k0, k1⟩ := (HA.out.below hb).at_ k (by rw [HN.out]; exact hlt)
        obtain ⟨g', f', rfl, -, k0', k1'⟩ := (HA'.out.below hb).at_ k (by rw [HN'.out]; exact hlt)
        have d1 : decide ((k : Int) < n) = true := decide_eq_true (by omega)
        have kn := fun a b c d W => neq_pair a b c d W
        clear hE hb
        by_cases e : Ep.pr x k = Ep.pr y k
        · have HE2 : Hid (∀ j, j < k + 1 → Ep.pr x j = Ep.pr y j) := hide fun j hj => by
            by_cases ej : j = k
            · rw [ej]; exact e
            · exact HE.out j (by omega)
          rw [e] at k0 k1
          generalize Ep.pr y k = q at *
          obtain ⟨pe, ps⟩ := q
          simp only at k0 k1 k0' k1'
          clear e
          go_wp2_with fail
          go_quiet (fail)
          go_wp2_with fail
          go_roundw
          case rel => exact ⟨k + 1, by omega, by go_num, HE2.out, below_drewN HB.out _⟩
          case measure => simp [intOf]; omega
        · have HX : Hid (x ≠ y) := hide fun k => e (by rw [k])
          have hb0 : ((Ep.pr x k).ep == (Ep.pr y k).ep && (Ep.pr x k).st == (Ep.pr y k).st) = false := by
            cases hh : ((Ep.pr x k).ep == (Ep.pr y k).ep && (Ep.pr x k).st == (Ep.pr y k).st) with
            | false => rfl
            | true =>
              rw [Bool.and_eq_true, beq_iff_eq, beq_iff_eq] at hh
              exact absurd (Ep.Pr.ext2 hh.1 hh.2) e
          have kn2 := fun W => neq_pair (Ep.pr x k).ep (Ep.pr x k).st (Ep.pr y k).ep (Ep.pr y k).st W
          rw [hb0] at kn2
          generalize (Ep.pr x k).ep = a at *
          generalize (Ep.pr x k).st = b at *
          generalize (Ep.pr y k).ep = a' at *
          generalize (Ep.pr y k).st = b' at *
          clear e kn hb0
          go_wp2_with fail
          go_quiet (fail)
          go_wp2_with fail
          go_ret
          exact ⟨⟨false, rfl, (by simp), fun h => absurd h HX.out⟩, below_drewN HB.out _⟩
      · obtain rfl : k = n := by omega
        have d1 : decide ((k : Int) < k) = false := decide_eq_false (by omega)
        clear hE hb
        go_wp2_with fail
        go_ret
        exact ⟨⟨true, rfl, fun _ => Ep.ext_pr (HN.out.trans HN'.out.symm) fun j hj => HE.out j (by rw [← HN.out]; exact hj), fun _ => rfl⟩, HB.out⟩
  · have u1 : ((n : Int) != n') = true := by simp; omega
    have HX : Hid (x ≠ y) := hide fun e => hnn (by rw [← hn, ← hn', e])
    clear h h' hn hn' hnn
    go_enter Tryd.func65, Tryd.ntmps65
    go_wp2_with fail
    go_ret
    exact ⟨⟨false, rfl, (by simp), fun h => absurd h HX.out⟩, Below.refl _ _⟩

set_option maxRecDepth 100000 in
set_option maxHeartbeats 2000000 in
theorem epHas_any (X : Nat) (l q : List Ep.Pr) (S : Nat → Prop) (A : Option Addr) (c n : Nat) (z whole : Int) (w : World) (p : Nat → Addr) (hs : Sents3 w p) (h : EpAt w X l S) (ho : Ep.Ok l) (hn : q.length = n) (hq : PrAt w A c q) :
    Calls Tryd.prog 33 #[.pointer (some ⟨X, 0, none⟩), .slice A n c, .int .i64 z, .int .i64 whole] w fun e w' => e = .returned (.bool (Ep.has l q z whole)) ∧ Below w.heap.size w w' := by
  have HK := hide (epCheck_any A c q w p hs hq)
  rw [hn] at HK
  have hle := hn ▸ hq.le
  cases hb : Ep.bad q with
  | some j =>
    have hv : Ep.has l q z whole = false := if_pos (.inl (by rw [hb]; simp))
    rw [hb] at HK
    simp only [errR] at HK
    rw [hv]
    have k1 := fun W => neq_nilD (p j) W
    unfold errV at *
    clear hs h ho hn hq hb hv
    go_enter Tryd.func33, Tryd.ntmps33
    go_wp2_with (first
      | (go_at_call 38; refine HK.out.mono ?_; rintro e w2 ⟨rfl, hb2⟩; have HB2 := hide hb2; clear hb2)
      | fail)
    go_ret
    exact ⟨rfl, HB2.out⟩
  | none =>
    have hok := Ep.bad_none.1 hb
    rw [hb] at HK
    simp only [errR] at HK
    rcases Nat.eq_zero_or_pos n with h0 | h0
    · have hv : Ep.has l q z whole = false := if_pos (.inr (.inl (List.eq_nil_of_length_eq_zero (hn.trans h0))))
      rw [hv]
      subst h0
      clear hs h ho hn hq hb hv hok
      go_enter Tryd.func33, Tryd.ntmps33
      go_wp2_with (first
        | (go_at_call 38; refine HK.out.mono ?_; rintro e w2 ⟨rfl, hb2⟩; have HB2 := hide hb2; clear hb2)
        | fail)
      go_ret
      exact ⟨rfl, HB2.out⟩
    · obtain ⟨m, rfl⟩ : ∃ m, n = m + 1 := ⟨n - 1, by omega⟩
      have hlen := hok.len
      obtain ⟨g, f, rfl, hg, -, y1⟩ := hq.at_ m (by omega)
      have hlast : Ep.last q = Ep.pr q m := by unfold Ep.last; rw [hn]; rfl
      have e0 : (((m : Int) + 1) == 0) = false := by rw [beq_eq_false_iff_ne]; omega
      have hw1 : IntKind.i64.wrap (m : Int) = (m : Int) := by rw [IntKind.wrap_i64]; omega
      by_cases c1 : z ≤ (Ep.pr q m).st
      · have hv : Ep.has l q z whole = false := if_pos (.inr (.inr (.inl (by rw [hlast]; exact c1))))
        rw [hv]
        have d1 : decide (z ≤ (Ep.pr q m).st) = true := decide_eq_true c1
        generalize (Ep.pr q m).st = sm at *
        clear hs h ho hn hq hb hv hok hlast c1 hlen
        go_enter Tryd.func33, Tryd.ntmps33
        go_wp2_with (first
          | (go_at_call 38; refine HK.out.mono ?_; rintro e w2 ⟨rfl, hb2⟩; have HB2 := hide hb2; have y12 := (hb2.cell (World.block_lt_of_cell? _ _ y1)).trans y1; clear hb2)
          | fail)
        go_ret
        exact ⟨rfl, HB2.out⟩
      · have d1 : decide (z ≤ (Ep.pr q m).st) = false := decide_eq_false c1
        by_cases c2 : whole < z
        · have hv : Ep.has l q z whole = false := if_pos (.inr (.inr (.inr c2)))
          rw [hv]
          have d2 : decide (whole < z) = true := decide_eq_true c2
          generalize (Ep.pr q m).st = sm at *
          clear hs h ho hn hq hb hv hok hlast c1 c2 hlen
          go_enter Tryd.func33, Tryd.ntmps33
          go_wp2_with (first
            | (go_at_call 38; refine HK.out.mono ?_; rintro e w2 ⟨rfl, hb2⟩; have HB2 := hide hb2; have y12 := (hb2.cell (World.block_lt_of_cell? _ _ y1)).trans y1; clear hb2)
            | fail)
          go_ret
          exact ⟨rfl, HB2.out⟩
        · have d2 : decide (whole < z) = false := decide_eq_false c2
          have HV : Hid (Ep.has l q z whole = true ↔ Ep.span l (Ep.pr q 0).st z = q) := hide (by
            unfold Ep.has
            rw [if_neg (by rintro (k | k | k | k); exact k hb; rw [k] at hn; simp at hn; rw [hlast] at k; exact c1 k; exact c2 k)]
            by_cases e : Ep.span l (Ep.pr q 0).st z = q
            · rw [if_pos e]; exact ⟨fun _ => e, fun _ => rfl⟩
            · rw [if_neg e]; exact ⟨fun k => (by cases k), fun k => absurd k e⟩)
          obtain ⟨g2, f2, e2, -, -, y0⟩ := hq.at_ 0 (by omega)
          injection e2 with e2
          injection e2 with e3 e4
          subst e3 e4
          rw [Nat.zero_mul, Nat.add_zero] at y0
          have HSP := hide (fun V (hb : Below w.heap.size w V) => epSpan_any X l S (Ep.pr q 0).st z V (h.below hb) ho)
          have HSL : Hid (∀ s : List Ep.Pr, s = Ep.span l (Ep.pr q 0).st z → s.length ≤ 1000000) := hide fun s es => by
            rw [es]
            by_cases hab : (Ep.pr q 0).st < z
            · rw [Ep.span_len _ _ hab]; have := Ep.ahead_le l z; have := ho.len; omega
            · unfold Ep.span; rw [if_pos (by omega)]; simp
          have HEQ : Hid (∀ V, Below w.heap.size w V → ∀ A' c', PrAt V A' c' (Ep.span l (Ep.pr q 0).st z) → Calls Tryd.prog 65 #[.slice A' (Ep.span l (Ep.pr q 0).st z).length c', .slice (some ⟨g, f, none⟩) (m + 1) c] V fun e w' => e = .returned (.bool (Ep.has l q z whole)) ∧ Below V.heap.size V w') := hide fun V hb A' c' hp => by
            refine (slEqual_any A' _ c' c _ (m + 1) (Ep.span l (Ep.pr q 0).st z) q V rfl hn (HSL.out _ rfl) (by omega) hp (hq.below hb)).mono ?_
            rintro e w' ⟨⟨r, rfl, hr⟩, hb'⟩
            refine ⟨?_, hb'⟩
            have : r = Ep.has l q z whole := by
              rw [Bool.eq_iff_iff, hr, HV.out]
            rw [this]
          generalize (Ep.pr q m).st = sm at *
          generalize (Ep.pr q 0).st = s0 at *
          generalize Ep.has l q z whole = r at *
          generalize Ep.span l s0 z = sp at *
          generalize hsl : sp.length = k at *
          clear hs h ho hn hq hb hok hlast c1 c2 hlen HV HSL
          go_enter Tryd.func33, Tryd.ntmps33
          go_wp2_with (first
            | (go_at_call 38; refine HK.out.mono ?_; rintro e w2 ⟨rfl, hb2⟩; have HB2 := hide hb2; have y12 := (hb2.cell (World.block_lt_of_cell? _ _ y1)).trans y1; have y02 := (hb2.cell (World.block_lt_of_cell? _ _ y0)).trans y0; clear hb2)
            | (go_at_call 32; refine (HSP.out _ HB2.out).mono ?_; rintro e w3 ⟨v, rfl, hv3, hb3⟩; obtain ⟨A3, c3, rfl, hp3, -, -⟩ := pairs_at hv3; have HP3 := hide hp3; have HB3 := hide (HB2.out.trans (hb3.mono HB2.out.size)); clear hv3 hp3 hb3; rw [hsl])
            | (go_at_call 65; refine (HEQ.out _ HB3.out _ _ HP3.out).mono ?_; rintro e w4 ⟨rfl, hb4⟩; have HB4 := hide (HB3.out.trans (hb4.mono HB3.out.size)); clear hb4)
            | fail)
          go_ret
          exact ⟨rfl, HB4.out⟩
end Go.Proofs.YtplpakdbahlgaaaDoor

namespace Go.Proofs.YtplpakdbahlgaaaDoor
open Go.RowKit

section
variable {w : World} {ops : Array Oper} {rest : List Oper} {o : Oper} {a : Act} {Q : Exit → Act → World → Prop}
/-- make([]api.Pair, 0, n). -/
theorem wpList_mkP (hgd : o.guard = none) (s x : Operand) (ho : o.op = Op.makeSlice 22 s x) (n : Nat) (N C : Int) (hs : a.eval s = .int .i64 N) (hx : a.eval x = .int .i64 C) (hN : N = 0) (hC : C = n) (hn : n ≤ 1000000)
    (h : ∀ w', OwnP w' w.heap.size (.slice (some ⟨w.heap.size, 0, none⟩) 0 n) [] → Below w.heap.size w w' → wpList Tryd.prog ops Q rest (a.put o.dst (.slice (some ⟨w.heap.size, 0, none⟩) 0 n)) w') : wpList Tryd.prog ops Q (o :: rest) a w := by
  obtain ⟨i, hi, hz, hs1, hby⟩ := info_parts pair_info
  refine wpList_plain hgd fun K hK => ?_
  have hrun := run_make (P := Tryd.prog) w 22 59 i _ Tryd.underlying22 hi hz .i64 .i64 0 n (by omega) (by omega) (by rw [hby]; omega) (by omega)
  unfold Oper.wp execOp
  subst hN hC
  simp only [ho, Sem.run_bind, Sem.run_pure, Result.andThen_ok, hs, hx, hrun, Int.toNat_natCast]
  refine hK _ _ (h _ ?_ ((Below.refl _ _).alloc (Nat.le_refl _) _))
  refine ⟨rfl, .inr ⟨w.heap.size, n, _, rfl, Nat.le_refl _, heap_alloc_new _ _, Nat.zero_le _, by simp only [maxLen]; omega, by simp [size_madeCells, hs1], ?_⟩⟩
  simp
/-- append(s, x...), s the call's own pairs, x whatever reads as pairs. -/
theorem wpList_appP (hgd : o.guard = none) (s x : Operand) (ho : o.op = .call { callee := .builtin .append, args := #[s, x], argTypes := #[22, 22] })
    (base : Nat) (v : Value) (l m : List Ep.Pr) (hs : a.eval s = v) (hown : OwnP w base v l) (A : Option Addr) (n c : Nat) (hx : a.eval x = .slice A n c) (hn : m.length = n) (hr : PrAt w A c m) (h0 : A = none → m = [])
    (hlen : l.length + n ≤ 1000000) (hbase : base ≤ w.heap.size)
    (h : ∀ v' w', OwnP w' base v' (l ++ m) → w.grownBy w' v.ownBlock → (v'.ownBlock = v.ownBlock ∨ v'.ownBlock = some w.heap.size) → wpList Tryd.prog ops Q rest (a.put o.dst v') w') : wpList Tryd.prog ops Q (o :: rest) a w := by
  subst hn
  cases A with
  | none =>
    have e := h0 rfl
    subst e
    obtain ⟨i, hi, hz, hs1, hby⟩ := info_parts pair_info
    refine wpList_plain hgd fun K hK => ?_
    have key : (Builtin.append_ #[22, 22] o.type #[v, .slice none 0 c]).run Tryd.prog w = .ok v w := by
      have u := Tryd.underlying22
      rcases hown.2 with ⟨rfl, _⟩ | ⟨g, cap, cur, rfl, _, _, hnc, _⟩
      · simp [Builtin.append_, run_underlying u, sizeOf, typeInfo, hi, Builtin.lenOf, Builtin.firstCells]
      · simp [Builtin.append_, run_underlying u, sizeOf, typeInfo, hi, Builtin.lenOf, Builtin.firstCells, hnc, storeCells]
    unfold Oper.wp execOp
    simp only [List.length_nil] at hx
    simp only [ho, resolve, invoke, builtin, Sem.run_bind, Sem.run_pure, Result.andThen_ok, List.map_toArray, List.map_cons, List.map_nil, hs, hx, key]
    exact hK _ _ (h v w (by rw [List.append_nil]; exact hown) (World.grownBy.refl w _) (.inl rfl))
  | some ad =>
    refine wpList_appG hgd 22 59 2 16 _ Tryd.underlying22 pair_info rfl (by omega) s x ho base v l.length (l.flatMap prCells) hs hown ad m.length c (m.flatMap prCells) hx (prs_len m) hr.news (prs_one m) (by simp only [maxLen]; omega) (by omega) hbase fun v' w' h1 h2 h3 => h v' w' ?_ h2 h3
    unfold OwnP
    rw [List.length_append, List.flatMap_append]
    exact h1
end

set_option maxRecDepth 100000 in
set_option maxHeartbeats 1000000 in
theorem refPairs_any (A : Option Addr) (c n : Nat) (l : List Ep.Pr) (w : World) (hn : l.length = n) (hl : n ≤ 100000) (h : PrAt w A c l) :
    Calls Tryd.prog 14 #[.slice A n c] w fun e w' => ∃ v, e = .returned v ∧ OwnP w' w.heap.size v l ∧ Below w.heap.size w w' := by
  have HA := hide h
  have HN := hide hn
  have hle := hn ▸ h.le
  clear h hn
  go_enter Tryd.func14, Tryd.ntmps14
  go_wp2_with (at_make; refine wpList_mkP rfl (.const (.int .i64 0)) (.tmp 6) rfl n 0 n rfl rfl rfl rfl (by omega) ?_; intro w1 ho1 hb1)
  have HO := hide ho1
  have HB := hide hb1
  clear ho1 hb1
  go_loopw [3, 4] (fun v i wr => ∃ k : Nat, k ≤ n ∧ i = .int .i64 k ∧ OwnP wr w.heap.size v (l.take k) ∧ Below w.heap.size w wr) (fun _ i _ => n - (intOf i).toNat)
  case atStart => exact ⟨0, Nat.zero_le _, rfl, HO.out, HB.out⟩
  case round =>
    obtain ⟨k, hk, rfl, ho, hb⟩ := hrel
    have HOK := hide ho
    have HBK := hide hb
    have HLK : Hid ((l.take k).length = k) := hide (by rw [List.length_take, HN.out]; omega)
    by_cases hlt : k < n
    · obtain ⟨g, f, rfl, -, k0, k1⟩ := (HA.out.below hb).at_ k (by rw [HN.out]; exact hlt)
      have d1 : decide ((k : Int) < n) = true := decide_eq_true (by omega)
      have HT : Hid (l.take (k + 1) = l.take k ++ [Ep.pr l k]) := hide (Ep.take_succ (by rw [HN.out]; exact hlt))
      generalize hq : Ep.pr l k = q at *
      obtain ⟨pe, ps⟩ := q
      simp only at k0 k1
      have HOA : Hid (World.ownsRow (wr.alloc (.cells #[.int .i64 pe, .int .i64 ps] 59)) w.heap.size 59 2 u3 k ((l.take k).flatMap prCells)) := hide (by
        have := World.ownsRow.alloc HOK.out (.cells #[.int .i64 pe, .int .i64 ps] 59)
        rwa [HLK.out] at this)
      clear ho hb hq
      go_wp2_with (at_builtin; refine wpList_appG (w := wr.alloc _) rfl 22 59 2 16 _ (by kernel_rfl) pair_info rfl (by omega) (.tmp 14) (.tmp 19) rfl w.heap.size u3 k ((l.take k).flatMap prCells) rfl HOA.out ⟨wr.heap.size, 0, none⟩ 1 1 (prCells ⟨pe, ps⟩) rfl rfl (news2 (w := wr)) (prs_one [⟨pe, ps⟩]) (by simp [maxLen]; omega) (by omega) (by have := HBK.out.size; simp; omega) ?_; intro v3 w3 ho3 hg3 hv3)
      have hbb : Below w.heap.size w w3 := (balloc HBK.out _).grown hg3 (by have := HBK.out.size; simp; omega) (fun g hg => (HOA.out.lt g hg).1)
      have hoo : OwnP w3 w.heap.size v3 (l.take (k + 1)) := by
        rw [HT.out]
        unfold OwnP
        rw [List.length_append, HLK.out, List.flatMap_append]
        exact ho3
      clear ho3 hg3 hv3
      have HB3 := hide hbb
      have HO3 := hide hoo
      clear hbb hoo
      go_wp2_with fail
      go_roundw
      case rel => exact ⟨k + 1, by omega, by go_num, HO3.out, HB3.out⟩
      case measure => simp [intOf]; omega
    · obtain rfl : k = n := by omega
      have d1 : decide ((k : Int) < k) = false := decide_eq_false (by omega)
      clear ho hb
      go_wp2_with fail
      go_ret
      refine ⟨_, rfl, ?_, HBK.out⟩
      have := HOK.out
      rwa [List.take_of_length_le (by rw [HN.out]; exact Nat.le_refl _)] at this

section
variable {w0 w w' : World} {L : List (Nat × List Ep.Pr)} {R : List (Option Addr × Nat × List Ep.Pr)}
theorem Lns.span {i X : Nat} {l : List Ep.Pr} (h : Lns w0 L R w) (hx : L[i]? = some (X, l)) (a b : Int) :
    Calls Tryd.prog 32 #[.pointer (some ⟨X, 0, none⟩), .int .i64 a, .int .i64 b] w fun e w' => ∃ A c, e = .returned (.slice A (Ep.span l a b).length c) ∧ (A = none → Ep.span l a b = [] ∧ c = 0) ∧ Lns w0 L (R ++ [(A, c, Ep.span l a b)]) w' ∧ Below w.heap.size w w' := by
  obtain ⟨S, hS, hok⟩ := h.get hx
  refine (epSpan_any X l S a b w hS hok).mono ?_
  rintro e w' ⟨v, rfl, hv, hb⟩
  obtain ⟨A, c, rfl, h0, h1⟩ := h.addRow hb hv
  exact ⟨A, c, rfl, h0, h1, hb⟩
theorem Lns.has {i j X n : Nat} {l q : List Ep.Pr} {A : Option Addr} {c : Nat} (h : Lns w0 L R w) (p : Nat → Addr) (hs : Sents3 w0 p) (hx : L[i]? = some (X, l)) (hr : R[j]? = some (A, c, q)) (hn : q.length = n) (z whole : Int) :
    Calls Tryd.prog 33 #[.pointer (some ⟨X, 0, none⟩), .slice A n c, .int .i64 z, .int .i64 whole] w fun e w' => e = .returned (.bool (Ep.has l q z whole)) ∧ Lns w0 L R w' := by
  obtain ⟨S, hS, hok⟩ := h.get hx
  refine (epHas_any X l q S A c n z whole w p (hs.below h.bel) hS hok hn (h.row j hr)).mono ?_
  rintro e w' ⟨rfl, hb⟩
  exact ⟨rfl, h.below hb⟩
theorem Lns.refPairs {j n : Nat} {q : List Ep.Pr} {A : Option Addr} {c : Nat} (h : Lns w0 L R w) (hr : R[j]? = some (A, c, q)) (hn : q.length = n) (hl : n ≤ 100000) :
    Calls Tryd.prog 14 #[.slice A n c] w fun e w' => ∃ v, e = .returned v ∧ OwnP w' w.heap.size v q ∧ Lns w0 L R w' ∧ Below w.heap.size w w' := by
  refine (refPairs_any A c n q w hn hl (h.row j hr)).mono ?_
  rintro e w' ⟨v, rfl, hv, hb⟩
  exact ⟨v, rfl, hv, h.below hb, hb⟩
theorem Lns.same {j : Nat} {q : List Ep.Pr} {A : Option Addr} {c : Nat} (h : Lns w0 L R w) (hr : R[j]? = some (A, c, q)) {A' : Option Addr} {c' n : Nat} (hp : PrAt w A' c' q) (hn : q.length = n) (hl : n ≤ 100000) :
    Calls Tryd.prog 23 #[.slice A' n c', .slice A n c] w fun e w' => e = .returned (.bool true) ∧ Lns w0 L R w' := by
  refine (samePairs_eq A' A c' c n q w hn (by omega) hp (h.row j hr)).mono ?_
  rintro e w' ⟨rfl, hb⟩
  exact ⟨rfl, h.below hb⟩
end
end Go.Proofs.YtplpakdbahlgaaaDoor
