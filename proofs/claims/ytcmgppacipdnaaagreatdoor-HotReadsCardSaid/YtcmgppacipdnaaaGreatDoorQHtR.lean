/-
  A log of segments: Read.
  A log of segments: Read, by the segment that has the offset.
  A log of segments: Read of what it has, by its groups.
-/
import Derived.Test.YtcmgppacipdnaaaGreatDoorQHtS
import Derived.Test.YtcmgppacipdnaaaGreatDoorQRegV
import Derived.Test.YtcmgppacipdnaaaGreatDoorQSgW
namespace Go.Proofs.YtcmgppacipdnaaaGreatDoor
open Go.RowKit Go.Maps Go.Shelf Go.Sort

/-- New blocks, and nothing else. -/
def GrownR (a b : World) : Prop := ∃ q os, b = grow (a.drewN q) os
theorem GrownR.refl (w : World) : GrownR w w := ⟨0, #[], by rw [grow_empty]; rfl⟩
theorem GrownR.trans {a b c : World} (h : GrownR a b) (k : GrownR b c) : GrownR a c := by
  obtain ⟨q, os, rfl⟩ := h
  obtain ⟨q', os', rfl⟩ := k
  refine ⟨q + q', os ++ os', ?_⟩
  rw [show (grow (a.drewN q) os).drewN q' = grow ((a.drewN q).drewN q') os from rfl, grow_grow, World.drewN_drewN]
theorem GrownR.drew (w : World) : GrownR w w.drew := ⟨1, #[], by rw [grow_empty]; rfl⟩
theorem GrownR.below {a b : World} (h : GrownR a b) : Below a.heap.size a b := by
  obtain ⟨q, os, rfl⟩ := h; exact below_grown_sl a.heap.size a q os (Nat.le_refl _)
theorem goesR : Goes GrownR := ⟨fun w => GrownR.refl w, fun h k => h.trans k⟩
set_option maxRecDepth 100000 in
theorem sgLastG_any (X D : Nat) (s : Sg.St) (T : Nat → Prop) (w : World) (h : SegAt w X D s T) (ho : Sg.Ok s) :
    Calls Tryz.prog 96 #[.pointer (some ⟨X, 0, none⟩)] w fun e w' => e = .returned (egV (Sg.last s.edges)) ∧ GrownR w w' := by
  obtain ⟨v, h⟩ := h
  obtain ⟨A, c, rfl, he, -, -, -, c3, -⟩ := h.cells
  have hne := List.length_pos_iff.2 ho.ne
  have hlen := ho.len
  obtain ⟨g, rfl, hg, k0, k1, k2, k3⟩ := he.at_ (s.edges.length - 1) (by omega)
  have hX := h.lt
  have hle := he.le
  have hmx := he.mx
  have hlast : Sg.ed s.edges (s.edges.length - 1) = Sg.last s.edges := rfl
  rw [hlast] at k0 k1 k2 k3
  generalize Sg.last s.edges = m at *
  obtain ⟨n, hn⟩ : ∃ n, s.edges.length = n + 1 := ⟨s.edges.length - 1, by omega⟩
  rw [hn] at c3 hle hlen k0 k1 k2 k3
  rw [Nat.add_sub_cancel] at k0 k1 k2 k3
  obtain ⟨mo, mp, me, mt⟩ := m
  simp only at k0 k1 k2 k3
  have hb : Below w.heap.size w (w.alloc (.cells #[.int .i64 0, .int .i64 0, .int .i64 0, .int .i64 0] 138)) := balloc (Below.refl _ _) _
  replace k0 := (hb.cell (p := ⟨g, n * 4, none⟩) hg).trans k0
  replace k1 := (hb.cell (p := ⟨g, n * 4 + 1, none⟩) hg).trans k1
  replace k2 := (hb.cell (p := ⟨g, n * 4 + 2, none⟩) hg).trans k2
  replace k3 := (hb.cell (p := ⟨g, n * 4 + 3, none⟩) hg).trans k3
  replace c3 := (hb.cell (p := ⟨X, 3, none⟩) hX).trans c3
  have hw : IntKind.i64.wrap (((n + 1 : Nat) : Int) - 1) = (n : Int) := by rw [IntKind.wrap_i64]; omega
  have hgw : g ≠ w.heap.size := by omega
  have hXw : X ≠ w.heap.size := by omega
  clear h ho he hlast hn hne
  go_enter Tryz.func96, Tryz.ntmps96
  go_upto_region 1 with fail
  go_region
  all_goals
    go_wp2_with fail
    refine bodyPost_ret (v := egV ⟨mo, mp, me, mt⟩) (by simp [results, Tryz.results96, go_sem]; try rfl) rfl ?_
    exact ⟨rfl, 1, #[.cells #[.int .i64 mo, .int .i64 mp, .int .i64 me, .int .i64 mt] 138], by rw [← alloc_eq_grow]; rfl⟩
set_option maxRecDepth 100000 in
theorem sgEndG_any (X D : Nat) (s : Sg.St) (T : Nat → Prop) (w : World) (h : SegAt w X D s T) (ho : Sg.Ok s) :
    Calls Tryz.prog 50 #[.pointer (some ⟨X, 0, none⟩)] w fun e w' => e = .returned (.int .i64 (Sg.last s.edges).off) ∧ GrownR w w' := by
  have HL := hide (sgLastG_any X D s T w h ho)
  clear h ho
  generalize Sg.last s.edges = m at *
  obtain ⟨mo, mp, me, mt⟩ := m
  unfold egV at HL
  simp only at HL
  have hfd := fld0 mo mp me mt
  go_enter Tryz.func50, Tryz.ntmps50
  go_wp2_with (first
    | (go_at_call 96; refine HL.out.mono ?_; rintro e w1 ⟨rfl, hb⟩; have HB := hide hb; clear hb)
    | fail)
  go_ret
  exact ⟨rfl, HB.out⟩

set_option maxRecDepth 100000 in
/-- Read's test of a segment. -/
theorem htRead1_any (B1 B2 H g X Bd n c i : Nat) (o : Int) (s : Sg.St) (T : Nat → Prop) (w : World) (hi : i < n) (c1 : w.cell? ⟨B1, 0, none⟩ = some (.pointer (some ⟨H, 0, none⟩))) (c2 : w.cell? ⟨B2, 0, none⟩ = some (.int .i64 o)) (c3 : w.cell? ⟨H, 3, none⟩ = some (.slice (some ⟨g, 0, none⟩) n c)) (k0 : w.cell? ⟨g, i, none⟩ = some (.pointer (some ⟨X, 0, none⟩))) (h : SegAt w X Bd s T) (ho : Sg.Ok s) :
    Calls Tryz.prog 54 (#[.int .i64 i] ++ #[.pointer (some ⟨B1, 0, none⟩), .pointer (some ⟨B2, 0, none⟩)]) w fun e w' => e = .returned (.bool (decide (o < (Sg.last s.edges).off))) ∧ GrownR w w' := by
  show Calls Tryz.prog 54 #[.int .i64 i, .pointer (some ⟨B1, 0, none⟩), .pointer (some ⟨B2, 0, none⟩)] w _
  have HE := hide (fun (W : World) (hw : GrownR w W) => sgEndG_any X Bd s T W (h.below hw.below) ho)
  have l1 := World.block_lt_of_cell? _ _ c1
  have l2 := World.block_lt_of_cell? _ _ c2
  have l3 := World.block_lt_of_cell? _ _ c3
  have l4 := World.block_lt_of_cell? _ _ k0
  simp only at l1 l2 l3 l4
  generalize (Sg.last s.edges).off = off at *
  obtain ⟨r, hr⟩ : ∃ r, r = decide (o < off) := ⟨_, rfl⟩
  rw [← hr]
  have HR := hide hr.symm
  clear h ho hr
  go_enter Tryz.func54, Tryz.ntmps54
  go_upto_region 1 with fail
  refine wp_region_guard (G := GrownR) goesR [5, 6, 7, 8, 9, 10, 11, 12, 13, 14, 4] (fun d => match d with
    | 5 => .is (.pointer (some ⟨H, 0, none⟩)) | 6 => .is (.pointer (some ⟨H, 0, none⟩)) | 7 => .is (.pointer (some ⟨H, 3, none⟩)) | 8 => .is (.slice (some ⟨g, 0, none⟩) n c) | 9 => .is (.int .i64 i) | 10 => .is (.pointer (some ⟨g, i, none⟩)) | 11 => .is (.pointer (some ⟨X, 0, none⟩)) | 12 => .is (.int .i64 off) | 13 => .is (.int .i64 o) | _ => .is (.bool r)) (by kernel_rfl) (by kernel_rfl) (by kernel_rfl) ?_ ?_
  · simp only [StepsG]
    refine ⟨?_, ?_, ?_, ?_, ?_, ?_, ?_, ?_, ?_, ?_, ?_, trivial⟩
    all_goals
      intro ev w6 hb hev hd
      have ev0 : ev (.tmp 0) = .int .i64 i := hev _ (by simp)
      have ev1 : ev (.tmp 1) = .pointer (some ⟨B1, 0, none⟩) := hev _ (by simp)
      have ev2 : ev (.tmp 2) = .pointer (some ⟨B2, 0, none⟩) := hev _ (by simp)
      have evf : ∀ f, ev (.func f) = .func (.func f) #[] #[] := fun f => hev _ (by simp)
      have evc : ∀ c, ev (.const c) = c := fun c => hev _ (by simp)
      have HB6 := hide ((GrownR.drew w).trans hb)
      have x1 := (HB6.out.below.cell (p := ⟨B1, 0, none⟩) l1).trans c1
      have x2 := (HB6.out.below.cell (p := ⟨B2, 0, none⟩) l2).trans c2
      have x3 := (HB6.out.below.cell (p := ⟨H, 3, none⟩) l3).trans c3
      have x4 := (HB6.out.below.cell (p := ⟨g, i, none⟩) l4).trans k0
      have HR2 := HR.out
      clear hev hb c1 c2 c3 k0
      simp [DepsG, Held.is] at hd
      try simp [OpGuard, OpRuns, execOp, go_sem, Held.is, GrownR.refl, *]
    · exact HE.out w6 HB6.out
  · intro f w9 hb hf
    have e4 : f 4 = .bool r := hf 4 (by simp)
    have HB9 := hide ((GrownR.drew w).trans hb)
    clear hf hb
    simp only [puts, Act.put, List.setIfInBounds_toArray, List.set_cons_succ, List.set_cons_zero]
    rw [e4]
    clear e4
    generalize f 5 = q5
    generalize f 6 = q6
    generalize f 7 = q7
    generalize f 8 = q8
    generalize f 9 = q9
    generalize f 10 = q10
    generalize f 11 = q11
    generalize f 12 = q12
    generalize f 13 = q13
    generalize f 14 = q14
    clear f
    go_wp2_with fail
    go_ret
    exact ⟨rfl, HB9.out⟩
end Go.Proofs.YtcmgppacipdnaaaGreatDoor

namespace Go.Proofs.YtcmgppacipdnaaaGreatDoor
open Go.RowKit Go.Maps Go.Shelf Go.Sort

theorem countP_upto (P : Nat → Bool) (k : Nat) : ∀ n, k ≤ n → (∀ i, i < k → P i = true) → (∀ i, k ≤ i → i < n → P i = false) → (List.range n).countP P = k
  | 0, h, _, _ => by simp; omega
  | n + 1, h, h1, h2 => by
    rw [List.range_succ, List.countP_append, List.countP_singleton]
    by_cases hk : k ≤ n
    · rw [countP_upto P k n hk h1 (fun i a b => h2 i a (by omega)), h2 n hk (by omega)]; simp
    · obtain rfl : k = n + 1 := by omega
      rw [h1 n (by omega)]
      have : (List.range n).countP P = n := by
        have h3 : (List.range n).countP P = (List.range n).length := List.countP_eq_length.2 fun i hi => h1 i (by have := List.mem_range.1 hi; omega)
        simpa using h3
      rw [this]; simp
/-- What a call asked of a segment tells, beside an error. -/
def heldTu (PR : Value → World → Prop) (hPR : ∀ v W W', PR v W → Below W.heap.size W W' → PR v W') (er : Value) : Held (fun a b : World => Below a.heap.size a b) :=
  ⟨fun x W => ∃ v, x = .tuple #[v, er] ∧ PR v W, fun _ _ _ ⟨v, h1, h2⟩ hg => ⟨v, h1, hPR _ _ _ h2 hg⟩⟩
def heldPR (PR : Value → World → Prop) (hPR : ∀ v W W', PR v W → Below W.heap.size W W' → PR v W') : Held (fun a b : World => Below a.heap.size a b) :=
  ⟨PR, fun _ _ _ h hg => hPR _ _ _ h hg⟩
abbrev hqEnd (qs : List HQ) (i : Nat) : Int := (Sg.last (qs.getD i default).s.edges).off
section
variable {w0 w : World} {S C : Nat → Prop} {n Bd H : Nat} {d : Dk.St} {sz ev : Int} {vs vb : Value} {qs : List HQ} {bats : List (Int × Int)}
set_option maxRecDepth 100000 in
set_option maxHeartbeats 1000000 in
/-- The segment that has an offset is searched for. -/
theorem htFind_any (h : HtL w0 S n Bd d H C sz ev vs vb qs bats w) (hl : qs.length ≤ 10000) (o : Int) (hmono : ∀ a b, a ≤ b → b < qs.length → hqEnd qs a ≤ hqEnd qs b) (k : Nat) (hk : k ≤ qs.length) (hlo : ∀ i, i < k → hqEnd qs i ≤ o) (hhi : k < qs.length → o < hqEnd qs k) (W : World) (hW : Below w.heap.size w W) (B1 B2 : Nat) (c1 : W.cell? ⟨B1, 0, none⟩ = some (.pointer (some ⟨H, 0, none⟩))) (c2 : W.cell? ⟨B2, 0, none⟩ = some (.int .i64 o)) :
    Calls Tryz.prog 53 #[.int .i64 qs.length, .func (.func 54) #[] #[.pointer (some ⟨B1, 0, none⟩), .pointer (some ⟨B2, 0, none⟩)]] W fun e w' => e = .returned (.int .i64 k) ∧ Below W.heap.size W w' := by
  obtain ⟨A, c, A', c', rfl, rfl, hq, -, -, -, -, c3, -⟩ := h.cells
  have hS := Any.sort_Search (P := Tryz.prog) lay_searchF 54 #[.pointer (some ⟨B1, 0, none⟩), .pointer (some ⟨B2, 0, none⟩)] qs.length (fun i => decide (o < hqEnd qs i)) W (enters_of Tryz.func54 (by kernel_rfl) rfl) (by omega)
    (fun m os i hi => by
      have hbg := below_grown_sl W.heap.size W m os (Nat.le_refl _)
      have up : ∀ {a v}, W.cell? a = some v → (grow (W.drewN m) os).cell? a = some v := fun {a v} ha => (hbg.cell (p := a) (World.block_lt_of_cell? _ _ ha)).trans ha
      obtain ⟨g, rfl, hg, k0⟩ := hq.at_ i hi
      have hmem : qs.getD i default ∈ qs := by
        rw [show qs.getD i default = qs[i] from by simp [List.getD, hi]]; exact List.getElem_mem _
      obtain ⟨h1, h2, -, -⟩ := h.each _ hmem
      have hb := hW.trans (hbg.mono hW.size)
      refine (htRead1_any B1 B2 H g (qs.getD i default).X Bd qs.length c i o (qs.getD i default).s (qs.getD i default).T _ hi (up c1) (up c2) (up ((hW.cell (p := ⟨H, 3, none⟩) h.lt).trans c3)) (up ((hW.cell (p := ⟨g, i, none⟩) hg).trans k0)) (h1.below hb) h2).mono ?_
      rintro e w' ⟨rfl, q, os', rfl⟩
      exact ⟨rfl, q, os', rfl⟩)
    (fun a b hab hb ha => decide_eq_true (by have := of_decide_eq_true ha; have := hmono a b hab hb; omega))
  have hcnt : (List.range qs.length).countP (fun i => !decide (o < hqEnd qs i)) = k := countP_upto _ k _ hk (fun i hi => by
    have := hlo i hi
    rw [decide_eq_false (by omega)]; rfl) (fun i hi hi2 => by
    have h1 := hhi (by omega)
    have h2 := hmono k i hi hi2
    rw [decide_eq_true (by omega)]; rfl)
  rw [hcnt] at hS
  exact hS.mono fun e w' ⟨he, q, os, hw⟩ => ⟨he, hw ▸ below_grown_sl W.heap.size W q os (Nat.le_refl _)⟩
set_option maxRecDepth 100000 in
set_option maxHeartbeats 2000000 in
theorem htRead_gen (h : HtL w0 S n Bd d H C sz ev vs vb qs bats w) (hl : qs.length ≤ 10000) (o most : Int) (hmono : ∀ a b, a ≤ b → b < qs.length → hqEnd qs a ≤ hqEnd qs b) (k : Nat) (hk : k < qs.length) (hlo : ∀ i, i < k → hqEnd qs i ≤ o) (hhi : o < hqEnd qs k) (PR : Value → World → Prop) (hPR : ∀ v W W', PR v W → Below W.heap.size W W' → PR v W') (er : Value)
    (hrd : ∀ W, Below w.heap.size w W → Calls Tryz.prog 55 #[.pointer (some ⟨(qs.getD k default).X, 0, none⟩), .int .i64 o, .int .i64 most] W fun e w' => ∃ v, e = .returned (.tuple #[v, er]) ∧ PR v w' ∧ Below W.heap.size W w') :
    Calls Tryz.prog 24 #[.pointer (some ⟨H, 0, none⟩), .int .i64 o, .int .i64 most] w fun e w' => ∃ v, e = .returned (.tuple #[v, er]) ∧ PR v w' ∧ Below w.heap.size w w' := by
  obtain ⟨W1, hW1⟩ : ∃ W1, W1 = (w.alloc (.cells #[.pointer (some ⟨H, 0, none⟩)] 29)).alloc (.cells #[.int .i64 o] 2) := ⟨_, rfl⟩
  have hb1 : Below w.heap.size w W1 := hW1 ▸ balloc (balloc (Below.refl _ _) _) _
  have b0 : W1.cell? ⟨w.heap.size, 0, none⟩ = some (.pointer (some ⟨H, 0, none⟩)) := by rw [hW1]; exact cell_alloc_sl _ (cell_new_sl _ _ _)
  have b1 : W1.cell? ⟨w.heap.size + 1, 0, none⟩ = some (.int .i64 o) := by
    rw [hW1]
    have e : (w.alloc (.cells #[.pointer (some ⟨H, 0, none⟩)] 29)).heap.size = w.heap.size + 1 := by simp
    rw [← e]; exact cell_new_sl _ _ _
  have hz1 : w.heap.size + 1 < W1.heap.size := World.block_lt_of_cell? _ _ b1
  have HS := hide (htFind_any h hl o hmono k (by omega) hlo (fun _ => hhi) W1 hb1 w.heap.size (w.heap.size + 1) b0 b1)
  have HRD := hide hrd
  obtain ⟨A, c, A', c', rfl, rfl, hq, -, -, -, -, c3, -⟩ := h.cells
  obtain ⟨g, rfl, hg, k0⟩ := hq.at_ k hk
  have hHl := h.lt
  have hle := hq.le
  have hmx := hq.mx
  have x3 := (hb1.cell (p := ⟨H, 3, none⟩) hHl).trans c3
  have x0 := (hb1.cell (p := ⟨g, k, none⟩) hg).trans k0
  have hH1 := Nat.lt_of_lt_of_le hHl hb1.size
  have hg1 := Nat.lt_of_lt_of_le hg hb1.size
  have HB1 := hide hb1
  have HW1 := hide hW1
  have hkl : k < c := by omega
  have hne : ((k : Int) == (qs.length : Int)) = false := by rw [beq_eq_false_iff_ne]; omega
  have hkq := hk
  unfold hqV at x0
  clear h hl hmono hlo hhi hrd hq c3 k0 hW1 hb1 hHl hg
  generalize qs.length = m at *
  generalize (qs.getD k default).X = X at *
  obtain ⟨B1, hB1⟩ : ∃ B1, B1 = w.heap.size := ⟨_, rfl⟩
  obtain ⟨B2, hB2⟩ : ∃ B2, B2 = w.heap.size + 1 := ⟨_, rfl⟩
  rw [← hB1] at b0
  rw [← hB2] at b1 hz1
  have HS2 : Hid (Calls Tryz.prog 53 #[.int .i64 m, .func (.func 54) #[] #[.pointer (some ⟨B1, 0, none⟩), .pointer (some ⟨B2, 0, none⟩)]] W1 fun e w' => e = .returned (.int .i64 k) ∧ Below W1.heap.size W1 w') := hide (by rw [hB1, hB2]; exact HS.out)
  have hzB1 : B1 < W1.heap.size := by omega
  have HBB1 := hide hB1
  have HBB2 := hide hB2
  clear HS
  go_enter Tryz.func24, Tryz.ntmps24
  go_upto_region 1 with fail
  rw [← HW1.out, ← hB1]
  rw [show B1 + 1 = B2 from by omega]
  clear hB1 hB2
  go_upto_region 4 with (first
    | (go_at_call 53; refine HS2.out.mono ?_; rintro e w2 ⟨rfl, hb⟩; have HB2 := hide (HB1.out.trans (hb.mono HB1.out.size)); have y0 := (hb.cell (p := ⟨B1, 0, none⟩) hzB1).trans b0; have y1 := (hb.cell (p := ⟨B2, 0, none⟩) hz1).trans b1; have y3 := (hb.cell (p := ⟨H, 3, none⟩) hH1).trans x3; have yg := (hb.cell (p := ⟨g, k, none⟩) hg1).trans x0; have hz2 := hb.size; clear hb)
    | fail)
  have l1 : B1 < w2.heap.size := by omega
  have l2 : B2 < w2.heap.size := by omega
  have l3 : H < w2.heap.size := by omega
  have l4 : g < w2.heap.size := by omega
  clear b0 b1 x3 x0
  refine wp_region_V (G0 := fun a b : World => Below a.heap.size a b) (G1 := fun a b : World => Below a.heap.size a b) (J := fun W => Below w.heap.size w W) ⟨fun w => Below.refl _ w, fun h k => h.trans (k.mono h.size)⟩ (fun _ _ h hb => h.trans (hb.mono h.size)) 9 [24, 25, 26, 27, 28, 29, 30, 31, 32, 33, 34, 35, 6, 7] [24, 25, 26, 27, 28, 29, 30, 31, 32, 33, 34, 35, 6, 7] [0, 1, 2, 3, 4, 5, 6, 7, 8] [10, 11, 12, 13]
    (fun d => match d with | 24 => .is (.pointer (some ⟨H, 0, none⟩)) | 25 => .is (.pointer (some ⟨H, 0, none⟩)) | 26 => .is (.pointer (some ⟨H, 3, none⟩)) | 27 => .is (.slice (some ⟨g, 0, none⟩) m c) | 28 => .is (.int .i64 k) | 29 => .is (.pointer (some ⟨g, k, none⟩)) | 30 => .is (.pointer (some ⟨X, 0, none⟩)) | 31 => .is (.int .i64 o) | 32 => .is (.int .i64 most) | _ => heldNo)
    (fun d => match d with | 33 => heldTu PR hPR er | 34 => heldPR PR hPR | 35 => .is er | 6 => heldPR PR hPR | 7 => .is er | _ => .any) (by kernel_rfl) (by kernel_rfl) (by kernel_rfl) (.inl rfl) ?_ ?_
  · simp only [StepsV]
    refine ⟨?_, ?_, ?_, ?_, ?_, ?_, ?_, ?_, ?_, ?_, ?_, ?_, ?_, ?_, trivial⟩
    all_goals first | rw [if_pos (by decide)] | (rw [if_neg (by decide)]; first | rw [if_pos (by decide)] | (rw [if_neg (by decide)]; first | rw [if_pos (by decide)] | (rw [if_neg (by decide)]; refine ⟨?_, ?_⟩)))
    all_goals
      intro ev wb hb hev hd
      have ev2 : ev (.tmp 2) = .int .i64 most := hev _ (by simp)
      have ev3 : ev (.tmp 3) = .pointer (some ⟨B1, 0, none⟩) := hev _ (by simp)
      have ev4 : ev (.tmp 4) = .pointer (some ⟨B2, 0, none⟩) := hev _ (by simp)
      have ev8 : ev (.tmp 8) = .int .i64 k := hev _ (by simp)
      have evf : ∀ f, ev (.func f) = .func (.func f) #[] #[] := fun f => hev _ (by simp)
      have evc : ∀ c, ev (.const c) = c := fun c => hev _ (by simp)
      clear hev
      simp [DepsV, Held.is, Held.any, heldTu, heldPR] at hd
      try
        have HBb : Hid (Below w2.heap.size w2 wb) := hide ((Below.refl _ _).drew.trans hb)
        have v0 := (HBb.out.cell (p := ⟨B1, 0, none⟩) l1).trans y0
        have v1 := (HBb.out.cell (p := ⟨B2, 0, none⟩) l2).trans y1
        have v3 := (HBb.out.cell (p := ⟨H, 3, none⟩) l3).trans y3
        have v4 := (HBb.out.cell (p := ⟨g, k, none⟩) l4).trans yg
      try (simp [OpGuardU, OpRuns, execOp, go_sem, Held.is, Held.any, Below.refl, *]; done)
    · simp [OpGuardU, OpRuns, execOp, go_sem, heldTu, heldNo, Held.any, *]
      refine (HRD.out wb (HB2.out.trans (HBb.out.mono HB2.out.size))).mono fun e w'' ⟨v, he, hp, hb2⟩ => ⟨_, he, (HB2.out.trans (HBb.out.mono HB2.out.size)).trans (hb2.mono (HB2.out.trans (HBb.out.mono HB2.out.size)).size), v, rfl, hp⟩
    · obtain ⟨v, e33, hP⟩ := hd
      simp [OpGuardU, OpRuns, execOp, go_sem, e33, heldPR, Below.refl]
      exact hP
    · obtain ⟨v, e33, hP⟩ := hd
      simp [OpGuardU, OpRuns, execOp, go_sem, e33, Held.is, Below.refl]
    · simp [OpGuardU, OpRuns, execOp, go_sem, heldPR, Below.refl]
      exact hd.1
  · intro f w3 hJ hf
    have e6 : PR (f 6) w3 := hf 6 (by simp)
    have e7 : f 7 = er := hf 7 (by simp)
    have HJ := hide hJ
    have HE6 := hide e6
    clear hf e6 hJ
    simp only [puts, Act.put, List.setIfInBounds_toArray, List.set_cons_succ, List.set_cons_zero]
    rw [e7]
    clear e7
    generalize f 6 = v6 at *
    generalize f 24 = q24
    generalize f 25 = q25
    generalize f 26 = q26
    generalize f 27 = q27
    generalize f 28 = q28
    generalize f 29 = q29
    generalize f 30 = q30
    generalize f 31 = q31
    generalize f 32 = q32
    generalize f 33 = q33
    generalize f 34 = q34
    generalize f 35 = q35
    clear f
    go_wp2_with fail
    go_returns
    exact ⟨_, rfl, HE6.out, HJ.out⟩
end
end Go.Proofs.YtcmgppacipdnaaaGreatDoor

namespace Go.Proofs.YtcmgppacipdnaaaGreatDoor
open Go.RowKit Go.Maps

namespace Ht
/-- They lie one behind the other. -/
structure Cont (gs : List Gr) : Prop where
  two : gs.Pairwise fun a b => lastOff a.1 a.2 ≤ b.1
  one : ∀ g ∈ gs, g.1 ≤ lastOff g.1 g.2
theorem Cont.put {g0 : List Gr} {o : Int} {cs : List Rc.Bat} {b : Rc.Bat} {sz : Int} (h : Cont (g0 ++ [(o, cs)])) (hb : b.base = lastOff o cs) : Cont (add sz (g0 ++ [(o, cs)]) b) := by
  have h1 := List.pairwise_append.1 h.two
  have ho := h.one (o, cs) (by simp)
  simp only at ho
  cases hg : big sz cs b
  · rw [add_small hg]
    refine ⟨List.pairwise_append.2 ⟨h1.1, by simp, fun a ha c hc => ?_⟩, fun g hg2 => ?_⟩
    · rw [List.mem_singleton.1 hc]; exact h1.2.2 a ha (o, cs) (by simp)
    · rcases List.mem_append.1 hg2 with hg2 | hg2
      · exact h.one g (List.mem_append_left _ hg2)
      · rw [List.mem_singleton.1 hg2]
        simp only [lastOff_snoc]
        omega
  · rw [add_big hg]
    refine ⟨List.pairwise_append.2 ⟨h.two, by simp, fun a ha c hc => ?_⟩, fun g hg2 => ?_⟩
    · rw [List.mem_singleton.1 hc]
      simp only
      rcases List.mem_append.1 ha with ha | ha
      · have := h1.2.2 a ha (o, cs) (by simp)
        simp only at this
        omega
      · rw [List.mem_singleton.1 ha]; simp only; omega
    · rcases List.mem_append.1 hg2 with hg2 | hg2
      · exact h.one g hg2
      · rw [List.mem_singleton.1 hg2]
        have := lastOff_snoc b.base [] b
        rw [List.nil_append] at this
        simp only [this]
        omega
theorem grp_cont (sz base : Int) (cs : List Rc.Bat) (s0 : Sg.St) (hso : (Sg.last s0.edges).off = base) (hch : Sg.Chain s0 cs) : Cont (grp sz base cs) := by
  induction cs using snoc_ind with
  | nil => exact ⟨by simp [grp], fun g hg => by simp [grp] at hg; subst hg; exact Int.le_refl _⟩
  | snoc cs b ih =>
    have hch2 := Sg.Chain.append.1 hch
    obtain ⟨g0, o, ds, e, hlo, -⟩ := grp_last sz base cs
    have hfol := hch2.2.1
    unfold Sg.follows at hfol
    rw [Bool.and_eq_true, decide_eq_true_eq, decide_eq_true_eq, chain_last hso] at hfol
    have h := ih hch2.1
    rw [grp_snoc]
    rw [e] at h ⊢
    exact h.put (by rw [hlo]; exact hfol.1)
end Ht
section
variable {d : Dk.St} {s : Sg.St} {room used base every : Int} {names : Dk.Dir} {x : Nat} {bs : List Rc.Bat}
theorem Mz.bounds (h : Mz d s room used names base every x bs) (j : Nat) (hj : j < bs.length) : base ≤ bs[j].base ∧ bs[j].base + bs[j].recs.length ≤ Ht.lastOff base bs := by
  have hc := h.chain
  have e0 : (Sg.ed (Sg.adds (Sg.begin (Nm.seg base) base every) bs).edges 0).off = base := by
    rw [Sg.adds_ed _ _ 0 (by simp [Sg.begin])]; rfl
  have hlen : (Sg.adds (Sg.begin (Nm.seg base) base every) bs).edges.length = bs.length + 1 := by rw [Sg.adds_len]; simp [Sg.begin]; omega
  have h1 := Sg.off_mono (Sg.begin (Nm.seg base) base every) rfl bs hc 0 j (Nat.zero_le _) (by omega)
  have h2 := Sg.off_mono (Sg.begin (Nm.seg base) base every) rfl bs hc (j + 1) bs.length (by omega) (by omega)
  rw [e0, ← Sg.ed_base (Sg.begin (Nm.seg base) base every) rfl bs hc j hj] at h1
  rw [Sg.ed_next (Sg.begin (Nm.seg base) base every) rfl bs j hj] at h2
  have h3 := h.lastOff.1
  rw [h.edges] at h3
  have h4 : (Sg.last (Sg.adds (Sg.begin (Nm.seg base) base every) bs).edges) = Sg.ed (Sg.adds (Sg.begin (Nm.seg base) base every) bs).edges bs.length := by
    unfold Sg.last; rw [hlen, Nat.add_sub_cancel]
  rw [h4] at h3
  omega
end
end Go.Proofs.YtcmgppacipdnaaaGreatDoor
