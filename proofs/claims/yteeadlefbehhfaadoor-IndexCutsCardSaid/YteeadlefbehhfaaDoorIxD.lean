/-
  Package index: Add.
-/
import Derived.Test.YteeadlefbehhfaaDoorIxC
namespace Go.Proofs.YteeadlefbehhfaaDoor
open Go.RowKit

theorem add_good {s : Ix.St} {o t p z : Int} (h : Ix.good s o t p z) : Ix.add s o t p z = (none, Ix.put s o t p) := if_pos h
theorem add_bad {s : Ix.St} {o t p z : Int} (h : ¬ Ix.good s o t p z) : Ix.add s o t p z = (some 4, s) := if_neg h

set_option maxRecDepth 100000 in
set_option maxHeartbeats 1000000 in
theorem ixBad_any (X : Nat) (mv av : Value) (s : Ix.St) (S : Nat → Prop) (e4 : Addr) (o t p z : Int) (w : World) (h : IxL w X mv av s S) (hn : s.adds.length ≤ 1000000) (hs : w.cell? ⟨1, 0, none⟩ = some (errV e4)) (hb : ¬ Ix.good s o t p z) :
    Calls Tryd.prog 19 #[.pointer (some ⟨X, 0, none⟩), .int .i64 o, .int .i64 t, .int .i64 p, .int .i64 z] w fun r w' => r = .returned (errV e4) ∧ Below w.heap.size w w' := by
  obtain ⟨W, hW⟩ : ∃ W, W = w.alloc (.cells #[.int .i64 o, .int .i64 p] 98) := ⟨_, rfl⟩
  have hbl : Below w.heap.size w W := by rw [hW]; exact balloc (Below.refl _ _) _
  have g4 := (hbl.cell (p := ⟨1, 0, none⟩) (World.block_lt_of_cell? w _ hs)).trans hs
  have b0 : W.cell? ⟨w.heap.size, 0, none⟩ = some (.int .i64 o) := by rw [hW]; simp
  have b1 : W.cell? ⟨w.heap.size, 1, none⟩ = some (.int .i64 p) := by rw [hW, World.cell?_alloc_mark]; rfl
  have HW := hide hW
  have HB := hide hbl
  have HO := hide (fun V => rightO_any o V)
  have HT := hide (fun V => rightT_any t V)
  have HP := hide (fun V => rightP_any p V)
  have HI := hide (behind_any X mv av s S o p W (h.same fun k _ hk => hbl.block k hk) hn)
  have HG4 := hide g4
  have HWZ := hide hbl.size
  clear h hn hbl hW hs
  unfold Ix.good at hb
  by_cases h1 : Ix.okO o
  · rw [decide_eq_true h1] at HO
    by_cases h2 : Ix.okT t
    · rw [decide_eq_true h2] at HT
      by_cases h3 : 1 ≤ z
      · have d3 : decide (z < 1) = false := by simp; omega
        by_cases h4 : Ix.okP p
        · rw [decide_eq_true h4] at HP
          have h5 : ¬ Ix.behind s.adds o p := fun k => hb ⟨h1, h2, h3, h4, k⟩
          rw [decide_eq_false h5] at HI
          clear hb h1 h2 h4 h5
          go_enter Tryd.func19, Tryd.ntmps19
          go_upto_region 2 with fail
          rw [← HW.out]
          go_wp2_with (first
            | (go_at_call 53; refine (HO.out _).mono ?_; rintro e w2 ⟨rfl, e⟩; subst e)
            | (go_at_call 54; refine (HT.out _).mono ?_; rintro e w2 ⟨rfl, e⟩; subst e)
            | (go_at_call 55; refine (HP.out _).mono ?_; rintro e w2 ⟨rfl, e⟩; subst e)
            | (go_at_call 56; refine HI.out.mono ?_; rintro e w2 ⟨rfl, hb2⟩; have HB2 := hide hb2; have g42 := (hb2.cell (p := ⟨1, 0, none⟩) (World.block_lt_of_cell? _ _ HG4.out)).trans HG4.out; clear hb2)
            | fail)
          go_ret
          exact ⟨rfl, HB.out.trans (HB2.out.mono HWZ.out)⟩
        · rw [decide_eq_false h4] at HP
          clear hb h1 h2 h4
          go_enter Tryd.func19, Tryd.ntmps19
          go_upto_region 2 with fail
          rw [← HW.out]
          go_wp2_with (first
            | (go_at_call 53; refine (HO.out _).mono ?_; rintro e w2 ⟨rfl, e⟩; subst e)
            | (go_at_call 54; refine (HT.out _).mono ?_; rintro e w2 ⟨rfl, e⟩; subst e)
            | (go_at_call 55; refine (HP.out _).mono ?_; rintro e w2 ⟨rfl, e⟩; subst e)
            | fail)
          go_ret
          exact ⟨rfl, HB.out⟩
      · have d3 : decide (z < 1) = true := by simp; omega
        clear hb h1 h2
        go_enter Tryd.func19, Tryd.ntmps19
        go_upto_region 2 with fail
        rw [← HW.out]
        go_wp2_with (first
          | (go_at_call 53; refine (HO.out _).mono ?_; rintro e w2 ⟨rfl, e⟩; subst e)
          | (go_at_call 54; refine (HT.out _).mono ?_; rintro e w2 ⟨rfl, e⟩; subst e)
          | fail)
        go_ret
        exact ⟨rfl, HB.out⟩
    · rw [decide_eq_false h2] at HT
      clear hb h1 h2
      go_enter Tryd.func19, Tryd.ntmps19
      go_upto_region 2 with fail
      rw [← HW.out]
      go_wp2_with (first
        | (go_at_call 53; refine (HO.out _).mono ?_; rintro e w2 ⟨rfl, e⟩; subst e)
        | (go_at_call 54; refine (HT.out _).mono ?_; rintro e w2 ⟨rfl, e⟩; subst e)
        | fail)
      go_ret
      exact ⟨rfl, HB.out⟩
  · rw [decide_eq_false h1] at HO
    clear hb h1
    go_enter Tryd.func19, Tryd.ntmps19
    go_upto_region 2 with fail
    rw [← HW.out]
    go_wp2_with (first
      | (go_at_call 53; refine (HO.out _).mono ?_; rintro e w2 ⟨rfl, e⟩; subst e)
      | fail)
    go_ret
    exact ⟨rfl, HB.out⟩
end Go.Proofs.YteeadlefbehhfaaDoor
