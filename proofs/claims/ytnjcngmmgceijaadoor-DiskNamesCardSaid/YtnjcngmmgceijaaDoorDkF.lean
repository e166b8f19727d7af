/-
  The file of a name; what is ahead of a call that changes a file; the first bytes of a file kept.
-/
import Derived.Test.YtnjcngmmgceijaaDoorDkM
namespace Go.Proofs.YtnjcngmmgceijaaDoor
open Go.RowKit Go.Maps

theorem DiskL.drewN {w : World} {Bd nb db : Nat} {sv : Value} {ids : List Nat} {row : Nat → Value} {s : Dk.St} {S : Nat → Prop} (h : DiskL w Bd nb db sv ids row s S) (n : Nat) : DiskL (w.drewN n) Bd nb db sv ids row s S := h.kept fun _ _ _ => rfl

set_option maxRecDepth 100000 in
theorem find_any (Bd nb db : Nat) (sv : Value) (ids : List Nat) (row : Nat → Value) (s : Dk.St) (S : Nat → Prop) (p : Nat → Addr) (k : Dk.Nm) (w : World) (hs : SentsD w p) (h : DiskL w Bd nb db sv ids row s S) (hk : k.length ≤ 9223372036854775807) :
    Calls Tryd.prog 42 #[.pointer (some ⟨Bd, 0, none⟩), encStr k] w fun e w' => e = .returned (.tuple #[fileV (s.find k).2, errR p (s.find k).1]) ∧ ∃ q, w' = w.drewN q := by
  have c1 : w.cell? ⟨Bd, 1, none⟩ = some (.map (some nb)) := box_cell h.box 1
  have c7 : w.cell? ⟨Bd, 7, none⟩ = some (.bool s.down) := box_cell h.box 7
  have g9 := hs.c9
  have g6 := hs.c6
  have hl := h.names.look k hk
  obtain ⟨r, hr⟩ : ∃ r, r = s.find k := ⟨_, rfl⟩
  rw [← hr]
  unfold Dk.St.find at hr
  clear h hs
  cases hd : s.down with
  | true =>
    rw [hd] at c7 hr
    simp only [if_true] at hr
    subst hr
    go_enter Tryd.func42, Tryd.ntmps42
    go_wp2_with fail
    go_quiet (fail)
    go_wp2_with fail
    go_returns
    exact ⟨by simp [fileV, errR], nq, rfl⟩
  | false =>
    rw [hd] at c7 hr
    cases hf : s.names k with
    | none =>
      rw [hf] at hl hr
      simp at hr
      subst hr
      have hl2 : (Instr.lookup 55 (.map (some nb)) (encStr k) false).run Tryd.prog w = .ok (.pointer none) w := hl
      clear hl
      go_enter Tryd.func42, Tryd.ntmps42
      go_wp2_with fail
      go_quiet (fail)
      go_wp2_with fail
      go_returns
      exact ⟨by simp [fileV, errR], nq, rfl⟩
    | some i =>
      rw [hf] at hl hr
      simp at hr
      subst hr
      have hl2 : (Instr.lookup 55 (.map (some nb)) (encStr k) false).run Tryd.prog w = .ok (.pointer (some ⟨i, 0, none⟩)) w := hl
      clear hl
      go_enter Tryd.func42, Tryd.ntmps42
      go_wp2_with fail
      go_returns
      exact ⟨by simp [fileV, errR], 0, rfl⟩

theorem neq_nilD (a : Addr) (w : World) : (binOp .neq 26 (errV a) .nilIface).run Tryd.prog w = .ok (.bool true) w := by
  obtain ⟨ms, i, j, h1, h2, h3, h4, h5⟩ := es_facts
  have h : ∀ d : Nat, (Op.equalIn (d + 1) 26 (errV a) .nilIface).run Tryd.prog w = .ok false w := fun d => by simp [Op.equalIn, run_underlying h1, errV]
  simp only [binOp]
  simp [Op.equal, Op.maxDepth, h 9999]

set_option maxRecDepth 100000 in
theorem change_any (Bd nb db : Nat) (sv : Value) (ids : List Nat) (row : Nat → Value) (s : Dk.St) (S : Nat → Prop) (p : Nat → Addr) (k : Dk.Nm) (w : World) (hs : SentsD w p) (h : DiskL w Bd nb db sv ids row s S) (ha : -9223372036854775808 ≤ s.armed ∧ s.armed ≤ 9223372036854775807)
    (hk : k.length ≤ 9223372036854775807) (hsafe : ∀ w', Chg (fun b => b = Bd) w w' → SentsD w' p) (hB : Bd ≠ 4) :
    Calls Tryd.prog 34 #[.pointer (some ⟨Bd, 0, none⟩), encStr k] w fun e w' => e = .returned (.tuple #[fileV (s.begin.find k).2, errR p (s.begin.find k).1]) ∧ DiskL w' Bd nb db sv ids row s.begin S ∧ Chg (fun b => b = Bd) w w' ∧ w'.heap.size = w.heap.size := by
  have HBG := hide (begin_any Bd nb db sv ids row s S p w hs h ha hB)
  have HF := hide (fun w' (hs' : SentsD w' p) (h' : DiskL w' Bd nb db sv ids row s.begin S) => find_any Bd nb db sv ids row s.begin S p k w' hs' h' hk)
  have HSF := hide hsafe
  have hfd : s.begin.down = true → s.begin.find k = (some 9, none) := fun h => by simp [Dk.St.find, h]
  have HFD := hide hfd
  clear hs h hsafe hfd
  generalize s.begin = t at *
  obtain ⟨r, hr⟩ : ∃ r, r = t.find k := ⟨_, rfl⟩
  rw [← hr] at HF HFD ⊢
  clear hr
  cases hd : t.down with
  | true =>
    have HR := hide (HFD.out hd)
    have HDD := hide hd
    have hne := fun w' => neq_nilD (p 9) w'
    unfold errV at hne
    clear HFD hd
    go_enter Tryd.func34, Tryd.ntmps34
    go_wp2_with (first
      | (go_at_call 31; refine HBG.out.mono ?_; rintro e w1 ⟨rfl, hd1, hc1, hz1⟩; have HD1 := hide hd1; have HC1 := hide hc1; clear hd1 hc1; rw [HDD.out]; simp only [if_true, errR, errV])
      | fail)
    go_returns
    refine ⟨?_, HD1.out, HC1.out, hz1⟩
    rw [HR.out]
    simp [fileV, errR, errV]
  | false =>
    have HDD := hide hd
    clear hd
    go_enter Tryd.func34, Tryd.ntmps34
    go_wp2_with (first
      | (go_at_call 31; refine HBG.out.mono ?_; rintro e w1 ⟨rfl, hd1, hc1, hz1⟩; have HD1 := hide hd1; have HC1 := hide hc1; clear hd1 hc1; rw [HDD.out]; simp only [Bool.false_eq_true, if_false, errR])
      | (go_at_call 42; refine (HF.out w1 (HSF.out _ HC1.out) HD1.out).mono ?_; rintro e w2 ⟨rfl, q, rfl⟩)
      | fail)
    go_returns
    exact ⟨rfl, HD1.out.drewN q, ⟨HC1.out.os, HC1.out.tape, HC1.out.output, HC1.out.size, HC1.out.block⟩, hz1⟩
end Go.Proofs.YtnjcngmmgceijaaDoor
