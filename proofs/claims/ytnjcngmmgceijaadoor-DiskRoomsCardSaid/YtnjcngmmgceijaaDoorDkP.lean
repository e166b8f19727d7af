/-
  A new disk; a pick of a crash.
-/
import Derived.Test.YtnjcngmmgceijaaDoorDkL
namespace Go.Proofs.YtnjcngmmgceijaaDoor
open Go.RowKit Go.Maps

/-- Numbers that are read from a row. -/
structure IntsArg (w : World) (A : Option Addr) (c : Nat) (zs : List Int) : Prop where
  le : zs.length ≤ c
  max : c ≤ 9223372036854775807
  nil : A = none → c = 0
  get : ∀ j, j < zs.length → ∃ b off, A = some ⟨b, off, none⟩ ∧ w.cell? ⟨b, off + j, none⟩ = some (.int .i64 (zs.getD j 0))
  fit : ∀ z ∈ zs, -9223372036854775808 ≤ z ∧ z ≤ 9223372036854775807

theorem pick_eq (v : Int) (m : Nat) : (if v.tmod ((m : Int) + 1) < 0 then v.tmod ((m : Int) + 1) + ((m : Int) + 1) else v.tmod ((m : Int) + 1)) = ((v % ((m : Int) + 1)).toNat : Int) := by
  have h1 := Int.emod_nonneg v (show ((m : Int) + 1) ≠ 0 by omega)
  have h2 := Int.emod_lt_of_pos v (show (0 : Int) < (m : Int) + 1 by omega)
  have h3 := Int.tmod_eq_emod (a := v) (b := (m : Int) + 1)
  have h4 : ((m : Int) + 1).natAbs = m + 1 := by omega
  rw [h4] at h3
  generalize v % ((m : Int) + 1) = x at *
  generalize v.tmod ((m : Int) + 1) = y at *
  split at h3 <;> split <;> omega

set_option maxRecDepth 100000 in
theorem pick_any (A : Option Addr) (c n : Nat) (zs : List Int) (i most : Nat) (w : World) (h : IntsArg w A c zs) (hn : zs.length = n) (hi : i ≤ 1099511627776) (hm : most ≤ 1099511627776) :
    Calls Tryd.prog 36 #[.slice A n c, .int .i64 (i : Int), .int .i64 (most : Int)] w fun e w' => e = .returned (.int .i64 ((Dk.pick zs i most : Nat) : Int)) ∧ w' = w := by
  have hw1 : IntKind.i64.wrap ((most : Int) + 1) = (most : Int) + 1 := IntWalk.i64_in _ (by omega)
  by_cases hlt : i < n
  · obtain ⟨b, off, rfl, hc⟩ := h.get i (by omega)
    have hv := h.fit (zs.getD i 0) (by rw [show zs.getD i 0 = zs[i]'(by omega) from by simp [List.getD, show i < zs.length by omega]]; exact List.getElem_mem _)
    have hp : ((Dk.pick zs i most : Nat) : Int) = ((zs.getD i 0 % ((most : Int) + 1)).toNat : Int) := by
      unfold Dk.pick; rw [if_pos (by omega)]
    have hq := pick_eq (zs.getD i 0) most
    have hl := h.le
    have hx := h.max
    have h0 : ((most : Int) + 1 == 0) = false := by rw [beq_eq_false_iff_ne]; omega
    have hd : decide ((n : Int) ≤ (i : Int)) = false := by simp; omega
    generalize ((Dk.pick zs i most : Nat) : Int) = P at *
    generalize zs.getD i 0 = v at *
    have hb := Int.lt_tmod_of_pos v (show (0 : Int) < (most : Int) + 1 by omega)
    have hb2 := Int.tmod_lt_of_pos v (show (0 : Int) < (most : Int) + 1 by omega)
    have HQ := hide (hp.trans hq.symm)
    clear hp hq h
    subst hn
    by_cases hneg : v.tmod ((most : Int) + 1) < 0
    · have d1 : decide (v.tmod ((most : Int) + 1) < 0) = true := by simp [hneg]
      have hw2 : IntKind.i64.wrap (v.tmod ((most : Int) + 1) + ((most : Int) + 1)) = v.tmod ((most : Int) + 1) + ((most : Int) + 1) := IntWalk.i64_in _ (by omega)
      have hw3 : IntKind.i64.wrap (v.tmod ((most : Int) + 1)) = v.tmod ((most : Int) + 1) := IntWalk.i64_in _ (by omega)
      go_enter Tryd.func36, Tryd.ntmps36
      go_wp2_with fail
      go_ret
      exact ⟨by rw [HQ.out, if_pos hneg]; rfl, rfl⟩
    · have d1 : decide (v.tmod ((most : Int) + 1) < 0) = false := by simp; omega
      have hw3 : IntKind.i64.wrap (v.tmod ((most : Int) + 1)) = v.tmod ((most : Int) + 1) := IntWalk.i64_in _ (by omega)
      go_enter Tryd.func36, Tryd.ntmps36
      go_wp2_with fail
      go_ret
      exact ⟨by rw [HQ.out, if_neg (by omega)]; rfl, rfl⟩
  · have hp : Dk.pick zs i most = 0 := by unfold Dk.pick; rw [if_neg (by omega)]
    have hd : decide ((n : Int) ≤ (i : Int)) = true := by simp; omega
    rw [hp]
    clear h
    go_enter Tryd.func36, Tryd.ntmps36
    go_wp2_with fail
    go_ret
    exact ⟨rfl, rfl⟩

set_option maxRecDepth 100000 in
theorem new_bad (room : Int) (p : Nat → Addr) (w : World) (hs : SentsD w p) (hr : room < 1 ∨ 4194304 < room) :
    Calls Tryd.prog 9 #[.int .i64 room] w fun e w' => e = .returned (.tuple #[.pointer none, errR p (some 4)]) ∧ ∃ q, w' = w.drewN q := by
  have g4 := hs.c4
  clear hs
  by_cases h1 : room < 1
  · have d1 : decide (room < 1) = true := by simp [h1]
    go_enter Tryd.func9, Tryd.ntmps9
    go_wp2_with fail
    go_quiet (fail)
    go_wp2_with fail
    go_returns
    exact ⟨rfl, nq, rfl⟩
  · have d1 : decide (room < 1) = false := by simp; omega
    have h2 : 4194304 < room := by omega
    have d2 : decide (4194304 < room) = true := by simp [h2]
    go_enter Tryd.func9, Tryd.ntmps9
    go_wp2_with fail
    go_quiet (fail)
    go_wp2_with fail
    go_returns
    exact ⟨rfl, nq, rfl⟩
set_option maxRecDepth 100000 in
theorem new_any (room : Int) (w : World) (h1 : 1 ≤ room) (h2 : room ≤ 4194304) :
    Calls Tryd.prog 9 #[.int .i64 room] w fun e w' => ∃ Bd, e = .returned (.tuple #[.pointer (some ⟨Bd, 0, none⟩), .nilIface]) ∧ w.heap.size ≤ Bd ∧ IsDisk w' Bd (Dk.St.new room) (fun k => w.heap.size ≤ k ∧ k < w'.heap.size) ∧ Below w.heap.size w w' := by
  have d1 : decide (room < 1) = false := by simp; omega
  have d2 : decide (4194304 < room) = false := by simp; omega
  have mk : ∀ W, (Instr.makeMap 55 none).run Tryd.prog W = .ok (.map (some W.heap.size)) (W.alloc (.map #[] 0)) := fun W => rfl
  go_enter Tryd.func9, Tryd.ntmps9
  go_wp2_with fail
  go_returns
  have ha := NamesAt.made w
  have hb := NamesAt.made (w.alloc (.map #[] 0))
  have b1 : Below w.heap.size w (w.alloc (.map #[] 0)) := balloc (Below.refl _ _) _
  have z1 : (w.alloc (.map #[] 0)).heap.size = w.heap.size + 1 := by simp
  generalize w.alloc (.map #[] 0) = W1 at *
  have b2 : Below W1.heap.size W1 (W1.alloc (.map #[] 0)) := balloc (Below.refl _ _) _
  have z2 : (W1.alloc (.map #[] 0)).heap.size = W1.heap.size + 1 := by simp
  generalize W1.alloc (.map #[] 0) = W2 at *
  refine ⟨w.heap.size + 1 + 1, rfl, by omega, ⟨w.heap.size, w.heap.size + 1, .slice none 0 0, [], fun _ => .nilIface, ?_⟩, ?_⟩
  · have b3 : Below W2.heap.size W2 (W2.alloc (.cells #[.int .i64 room, .map (some w.heap.size), .map (some (w.heap.size + 1)), .slice none 0 0, .int .i64 0, .int .i64 0, .int .i64 0, .bool false] 58)) := balloc (Below.refl _ _) _
    have hn := heap_alloc_new W2 (.cells #[.int .i64 room, .map (some w.heap.size), .map (some (w.heap.size + 1)), .slice none 0 0, .int .i64 0, .int .i64 0, .int .i64 0, .bool false] 58)
    have z3 : (W2.alloc (.cells #[.int .i64 room, .map (some w.heap.size), .map (some (w.heap.size + 1)), .slice none 0 0, .int .i64 0, .int .i64 0, .int .i64 0, .bool false] 58)).heap.size = W2.heap.size + 1 := by simp
    generalize W2.alloc (.cells #[.int .i64 room, .map (some w.heap.size), .map (some (w.heap.size + 1)), .slice none 0 0, .int .i64 0, .int .i64 0, .int .i64 0, .bool false] 58) = W3 at *
    rw [z2, z1] at hn
    rw [z1] at hb
    exact { box := hn, names := ha.same ((b3.block _ (by omega)).trans (b2.block _ (by omega))), dur := ⟨0, hb.same (b3.block _ (by omega)), Nat.le_refl _⟩, ne := by omega, since := World.ownsRow_nil _ _ _ _, nodup := List.nodup_nil, file := fun i hi => absurd hi List.not_mem_nil, apart := fun i hi => absurd hi List.not_mem_nil, nref := fun k i hk => (by cases hk), dref := fun k i hk => (by cases hk), sref := fun m hm => absurd hm List.not_mem_nil, calls := Int.le_refl _, mBd := (by show _ ∧ _; omega), mnb := (by show _ ∧ _; omega), mdb := (by show _ ∧ _; omega), msv := fun g hg => (by cases hg), mid := fun i hi => absurd hi List.not_mem_nil, mrow := fun i hi => absurd hi List.not_mem_nil }
  · exact (b1.trans (b2.mono (by omega))).trans ((balloc (Below.refl _ _) _ : Below W2.heap.size W2 _).mono (by omega))
end Go.Proofs.YtnjcngmmgceijaaDoor
