/-
  What a disk reads out: bytes.Clone, Read.
-/
import Derived.Test.YtnjcngmmgceijaaDoorDkV
namespace Go.Proofs.YtnjcngmmgceijaaDoor
open Go.RowKit Go.Maps

theorem run_eql_bytes_nil (A : Option Addr) (n c : Nat) (w : World) : (binOp .eql 33 (.slice A n c) (.slice none 0 0)).run Tryd.prog w = .ok (.bool A.isNone) w := by
  have ht : Tryd.prog.underlying 33 = some (.slice 5) := by kernel_rfl
  have h : ∀ d : Nat, (Op.equalIn (d + 1) 33 (.slice A n c) (.slice none 0 0)).run Tryd.prog w = .ok A.isNone w := fun d => by cases A <;> simp [Op.equalIn, run_underlying ht]
  simp only [binOp]
  simp [Op.equal, Op.maxDepth, h 9999]
theorem Own.none_yet (w : World) (base : Nat) (hb : base ≤ w.heap.size) : Own (w.alloc (.cells #[] 5)) base (.slice (some ⟨w.heap.size, 0, none⟩) 0 0) [] :=
  World.ownsRow_made w #[] 0 hb (Nat.zero_le _) rfl

/-- A copy in a row of its own. -/
theorem bclone_any (A : Option Addr) (cap n : Nat) (l : List UInt8) (w : World) (hn : l.length = n) (hl : n ≤ 1000000000) (ha : Arg w A cap l) :
    Calls Tryd.prog 43 #[.slice A n cap] w fun e w' => ∃ v, e = .returned v ∧ Own w' w.heap.size v l ∧ Below w.heap.size w w' := by
  have ks := fun W => run_eql_bytes_nil A n cap W
  cases A with
  | none =>
    have h0 : l = [] := by
      have := ha.nil rfl
      have := ha.le
      exact List.eq_nil_of_length_eq_zero (by omega)
    subst h0
    obtain rfl : n = 0 := hn.symm
    have hc := ha.nil rfl
    subst hc
    clear ha hn
    go_enter Tryd.func43, Tryd.ntmps43
    go_wp2_with fail
    go_ret
    exact ⟨_, rfl, Own.nil _ _, Below.refl _ _⟩
  | some a =>
    have HA := hide ha
    have HN := hide hn
    have HO := hide (Own.none_yet w w.heap.size (Nat.le_refl _))
    clear ha hn
    go_enter Tryd.func43, Tryd.ntmps43
    go_wp2_with (at_builtin; refine wpList_app (w := w.alloc _) rfl (.tmp 5) (.tmp 6) rfl w.heap.size _ [] l rfl HO.out (some a) n cap rfl HN.out (HA.out.reads.alloc _) (by simp; omega) (by simp) ?_; intro v w3 hown3 hg3 hv3)
    have hb : Below w.heap.size w w3 := (balloc (Below.refl _ _) _).grown hg3 (by simp) (fun g hg => (HO.out.lt g hg).1)
    rw [List.nil_append] at hown3
    go_ret
    exact ⟨v, rfl, hown3, hb⟩

/-- What a file holds from a place on. -/
def Dk.St.readOf (s : Dk.St) (k : Dk.Nm) (a n : Int) : Option Nat × Dk.Nm :=
  match s.find k with
  | (some j, _) => (some j, [])
  | (none, none) => (none, [])
  | (none, some i) => if a < 0 ∨ n < 0 ∨ ((s.files i).bytes.length : Int) < a ∨ ((s.files i).bytes.length : Int) - a < n then (some 4, []) else (none, ((s.files i).bytes.drop a.toNat).take n.toNat)
theorem SentsOn.drewN {w : World} {p : Nat → Addr} (h : SentsD w p) (q : Nat) : SentsD (w.drewN q) p := ⟨fun j hj => h.cell j hj, fun j hj => h.blk j hj, h.ne⟩

set_option maxRecDepth 100000 in
set_option maxHeartbeats 1000000 in
theorem read_any (Bd : Nat) (s : Dk.St) (S : Nat → Prop) (p : Nat → Addr) (k : Dk.Nm) (a n : Int) (w : World) (hs : SentsD w p) (h : IsDisk w Bd s S) (hk : k.length ≤ 9223372036854775807) (hft : Dk.Fit s) (ha : -9223372036854775808 ≤ a ∧ a ≤ 9223372036854775807) :
    Calls Tryd.prog 23 #[.pointer (some ⟨Bd, 0, none⟩), encStr k, .int .i64 a, .int .i64 n] w fun e w' => ∃ v, e = .returned (.tuple #[v, errR p (s.readOf k a n).1]) ∧ Own w' w.heap.size v (s.readOf k a n).2 ∧ Below w.heap.size w w' := by
  obtain ⟨nb, db, sv, ids, row, h⟩ := h
  have HF := hide (find_any Bd nb db sv ids row s S p k w hs h hk)
  have HD := hide h
  have HSE := hide hs
  obtain ⟨r, hr⟩ : ∃ r, r = s.readOf k a n := ⟨_, rfl⟩
  rw [← hr]
  unfold Dk.St.readOf at hr
  clear h hs
  rcases find_cases s k with ⟨j, hf⟩ | ⟨i, hf, hnm⟩
  · rw [hf] at hr HF
    simp only at hr HF
    subst hr
    have hne := fun w' => neq_nilD (p j) w'
    unfold errV at hne
    clear hf
    go_enter Tryd.func23, Tryd.ntmps23
    go_wp2_with (first
      | (go_at_call 42; refine HF.out.mono ?_; rintro e w1 ⟨rfl, q, hq⟩; simp only [errR, errV, fileV])
      | fail)
    go_returns
    exact ⟨_, rfl, Own.nil _ _, (below_drewN (Below.refl w.heap.size w) q)⟩
  · rw [hf] at hr HF
    simp only at hr HF
    have hi := (HD.out.nref k i hnm).1
    have hfi := HD.out.file i hi
    obtain ⟨A, c, hrv, harg⟩ := hfi.row.arg
    have HA := hide harg
    have hc1 : w.cell? ⟨i, 1, none⟩ = some (row i) := box_cell hfi.box 1
    rw [hrv] at hc1
    have hlen := hft.file i
    clear hf hnm hi hfi hrv harg hft
    generalize (s.files i).bytes = B at *
    by_cases hbad : a < 0 ∨ n < 0 ∨ (B.length : Int) < a ∨ (B.length : Int) - a < n
    · rw [if_pos hbad] at hr
      subst hr
      by_cases h0 : a < 0
      · have d0 : decide (a < 0) = true := by simp [h0]
        go_enter Tryd.func23, Tryd.ntmps23
        go_wp2_with (first
          | (go_at_call 42; refine HF.out.mono ?_; rintro e w1 ⟨rfl, q, rfl⟩; have g4 := (HSE.out.drewN q).c4; have hc2 : (w.drewN q).cell? ⟨i, 1, none⟩ = some (.slice A B.length c) := hc1; have HB : Hid (Below w.heap.size w (w.drewN q)) := hide ((below_drewN (Below.refl w.heap.size w) q)); generalize w.drewN q = w1 at *; simp only [errR, errV, fileV])
          | fail)
        go_quiet (fail)
        go_wp2_with fail
        go_returns
        exact ⟨_, rfl, Own.nil _ _, below_drewN HB.out nq⟩
      · have d0 : decide (a < 0) = false := by simp; omega
        obtain ⟨x, rfl⟩ : ∃ x : Nat, a = (x : Int) := ⟨a.toNat, by omega⟩
        by_cases h1 : n < 0
        · have d1 : decide (n < 0) = true := by simp [h1]
          go_enter Tryd.func23, Tryd.ntmps23
          go_wp2_with (first
            | (go_at_call 42; refine HF.out.mono ?_; rintro e w1 ⟨rfl, q, rfl⟩; have g4 := (HSE.out.drewN q).c4; have hc2 : (w.drewN q).cell? ⟨i, 1, none⟩ = some (.slice A B.length c) := hc1; have HB : Hid (Below w.heap.size w (w.drewN q)) := hide (below_drewN (Below.refl w.heap.size w) q); generalize w.drewN q = w1 at *; simp only [errR, errV, fileV])
            | fail)
          go_quiet (fail)
          go_wp2_with fail
          go_returns
          exact ⟨_, rfl, Own.nil _ _, below_drewN HB.out nq⟩
        · have d1 : decide (n < 0) = false := by simp; omega
          by_cases h2 : B.length < x
          · have d2 : decide (B.length < x) = true := by simp [h2]
            go_enter Tryd.func23, Tryd.ntmps23
            go_wp2_with (first
              | (go_at_call 42; refine HF.out.mono ?_; rintro e w1 ⟨rfl, q, rfl⟩; have g4 := (HSE.out.drewN q).c4; have hc2 : (w.drewN q).cell? ⟨i, 1, none⟩ = some (.slice A B.length c) := hc1; have HB : Hid (Below w.heap.size w (w.drewN q)) := hide (below_drewN (Below.refl w.heap.size w) q); generalize w.drewN q = w1 at *; simp only [errR, errV, fileV])
              | fail)
            go_quiet (fail)
            go_wp2_with fail
            go_returns
            exact ⟨_, rfl, Own.nil _ _, below_drewN HB.out nq⟩
          · have d2 : decide (B.length < x) = false := by simp; omega
            have hw1 : IntKind.i64.wrap ((B.length : Int) - (x : Int)) = (B.length : Int) - (x : Int) := IntWalk.i64_in _ (by omega)
            have h3 : (B.length : Int) - (x : Int) < n := by omega
            have d3 : decide ((B.length : Int) - (x : Int) < n) = true := by simp [h3]
            go_enter Tryd.func23, Tryd.ntmps23
            go_wp2_with (first
              | (go_at_call 42; refine HF.out.mono ?_; rintro e w1 ⟨rfl, q, rfl⟩; have g4 := (HSE.out.drewN q).c4; have hc2 : (w.drewN q).cell? ⟨i, 1, none⟩ = some (.slice A B.length c) := hc1; have HB : Hid (Below w.heap.size w (w.drewN q)) := hide (below_drewN (Below.refl w.heap.size w) q); generalize w.drewN q = w1 at *; simp only [errR, errV, fileV])
              | fail)
            go_quiet (fail)
            go_wp2_with fail
            go_returns
            exact ⟨_, rfl, Own.nil _ _, below_drewN HB.out nq⟩
    · rw [if_neg hbad] at hr
      subst hr
      obtain ⟨x, rfl⟩ : ∃ x : Nat, a = (x : Int) := ⟨a.toNat, by omega⟩
      obtain ⟨m, rfl⟩ : ∃ m : Nat, n = (m : Int) := ⟨n.toNat, by omega⟩
      have hx : x + m ≤ B.length := by omega
      have d0 : decide ((x : Int) < 0) = false := by simp
      have d1 : decide ((m : Int) < 0) = false := by simp
      have d2 : decide (B.length < x) = false := by simp; omega
      have hw1 : IntKind.i64.wrap ((B.length : Int) - (x : Int)) = (B.length : Int) - (x : Int) := IntWalk.i64_in _ (by omega)
      have d3 : decide ((B.length : Int) - (x : Int) < (m : Int)) = false := by simp; omega
      have hw2 : IntKind.i64.wrap ((x : Int) + (m : Int)) = ((x + m : Nat) : Int) := by rw [IntWalk.i64_in _ (by omega)]; omega
      have hle := HA.out.le
      have hct := fun W => run_cut_lh W A B.length c x (x + m) (by omega) (by omega)
      rw [show x + m - x = m by omega] at hct
      have HCA : Hid (∀ W, Below w.heap.size w W → Calls Tryd.prog 43 #[.slice (cutA A c x) m (c - x)] W fun e w' => ∃ v, e = .returned v ∧ Own w' W.heap.size v ((B.drop x).take m) ∧ Below W.heap.size W w') := hide (fun W hW =>
        bclone_any _ _ _ _ W (by rw [List.length_take, List.length_drop]; omega) (by omega) (((HA.out.below hW (Nat.le_refl _)).cut x (by omega)).first m))
      clear hbad
      go_enter Tryd.func23, Tryd.ntmps23
      go_wp2_with (first
        | (go_at_call 42; refine HF.out.mono ?_; rintro e w1 ⟨rfl, q, rfl⟩; have hc2 : (w.drewN q).cell? ⟨i, 1, none⟩ = some (.slice A B.length c) := hc1; have HB : Hid (Below w.heap.size w (w.drewN q)) := hide (below_drewN (Below.refl w.heap.size w) q); have HCW := hide (HCA.out _ HB.out); have HZ : Hid ((w.drewN q).heap.size = w.heap.size) := hide rfl; generalize w.drewN q = w1 at *; simp only [errR, errV, fileV])
        | (go_at_call 43; refine HCW.out.mono ?_; rintro e w2 ⟨v, rfl, hown, hb2⟩)
        | fail)
      all_goals
        go_returns
        exact ⟨_, rfl, by have h9 := hown; rw [HZ.out] at h9; exact h9, HB.out.trans (hb2.mono HB.out.size)⟩
end Go.Proofs.YtnjcngmmgceijaaDoor
