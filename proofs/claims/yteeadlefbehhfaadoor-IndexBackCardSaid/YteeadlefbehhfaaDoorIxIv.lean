/-
  What holds of every index: plainly. The index that IndexSpoilt makes.
-/
import Derived.Test.YteeadlefbehhfaaDoorIxR
import Derived.Test.YteeadlefbehhfaaDoorIxBp
import Derived.Test.YteeadlefbehhfaaDoorIxW
namespace Go.Proofs.YteeadlefbehhfaaDoor.Ix

structure Inv0 (s : St) : Prop where
  ok : Ok s
  rise : rise s.marks
  last : ∀ m, s.marks.getLast? = some m → ∃ a, s.adds.getLast? = some a ∧ m.off ≤ a.off ∧ m.pos ≤ a.pos
structure Inv (s : St) : Prop extends Inv0 s where
  len : s.marks.length ≤ s.adds.length
theorem Inv0.new (e : Int) (h : 1 ≤ e ∧ e ≤ 1048576) : Inv0 (new e) :=
  ⟨Ok.new e h, fun i hi => absurd hi (by show ¬ i + 1 < 0; omega), fun m hm => (by cases hm)⟩
theorem Inv0.put {s : St} (h : Inv0 s) {o t p z : Int} (hg : good s o t p z) : Inv0 (put s o t p) := by
  obtain ⟨h1, h2, h3, h4, h5⟩ := hg
  have hlast : ∀ m, s.marks.getLast? = some m → m.off < o ∧ m.pos < p := fun m hm => by
    obtain ⟨a, ha, h6, h7⟩ := h.last m hm
    have := h5 a ha
    omega
  refine ⟨h.ok.put o t p h1 h2 h4, ?_, fun m hm => ?_⟩
  · unfold Ix.put
    simp only
    split
    · exact rise_snoc h.rise hlast
    · exact h.rise
  · refine ⟨⟨o, p⟩, by simp [Ix.put], ?_⟩
    unfold Ix.put at hm
    simp only at hm
    split at hm
    · rw [List.getLast?_append] at hm
      simp at hm
      subst hm
      exact ⟨Int.le_refl _, Int.le_refl _⟩
    · have := hlast m hm
      exact ⟨by show m.off ≤ o; omega, by show m.pos ≤ p; omega⟩
theorem put_lens (s : St) (o t p : Int) : (put s o t p).marks.length ≤ s.marks.length + 1 ∧ (put s o t p).adds.length = s.adds.length + 1 := by
  refine ⟨?_, by simp [Ix.put]⟩
  show (if due s p then s.marks ++ [⟨o, max s.time t, p⟩] else s.marks).length ≤ _
  split
  · simp
  · omega
theorem Inv.new (e : Int) (h : 1 ≤ e ∧ e ≤ 1048576) : Inv (new e) := ⟨Inv0.new e h, Nat.le_refl _⟩
theorem Inv.put {s : St} (h : Inv s) {o t p z : Int} (hg : good s o t p z) : Inv (put s o t p) :=
  ⟨h.toInv0.put hg, by have := put_lens s o t p; have := h.len; omega⟩
theorem Inv0.add {s : St} (h : Inv0 s) (o t p z : Int) : Inv0 (add s o t p z).2 := by
  unfold Ix.add
  split
  · rename_i hg; exact h.put hg
  · exact h
theorem add_lens (s : St) (o t p z : Int) : (add s o t p z).2.marks.length ≤ s.marks.length + 1 ∧ (add s o t p z).2.adds.length ≤ s.adds.length + 1 := by
  unfold Ix.add
  split
  · have := put_lens s o t p
    show (put s o t p).marks.length ≤ _ ∧ (put s o t p).adds.length ≤ _
    omega
  · show s.marks.length ≤ _ ∧ s.adds.length ≤ _; omega
theorem Inv0.steps {s : St} (h : Inv0 s) : steps z0 s.marks := steps_z0 h.ok.marks h.rise

def adI (z : Nat → Int) (i : Nat) : Ad := ⟨(i : Int), posF z i⟩
/-- IndexSpoilt's index behind k batches. -/
def stS (z : Nat → Int) : Nat → St
  | 0 => new 20
  | k + 1 => (add (stS z k) (k : Int) 0 (posF z k) (z k)).2
theorem stS_spec {z : Nat → Int} (hz : ∀ i, 1 ≤ z i ∧ z i ≤ 90) : ∀ k, k ≤ 1000 → Inv (stS z k) ∧ (stS z k).adds = (List.range k).map (adI z) ∧ (stS z k).every = 20
  | 0, _ => ⟨Inv.new 20 (by omega), rfl, rfl⟩
  | k + 1, hk => by
    obtain ⟨h1, h2, h3⟩ := stS_spec hz k (by omega)
    have hp := posF_le hz k
    have hb : behind (stS z k).adds (k : Int) (posF z k) := by
      rw [h2]
      intro a ha
      cases k with
      | zero => cases ha
      | succ k =>
        obtain rfl := (last_range (adI z) k a).1 ha
        have := posF_lt (z := z) (fun i => (hz i).1) (show k < k + 1 by omega)
        simp only [adI]; omega
    have hg : good (stS z k) (k : Int) 0 (posF z k) (z k) := ⟨⟨by omega, by omega⟩, ⟨by omega, by omega⟩, (hz k).1, ⟨by omega, by omega⟩, hb⟩
    have e : stS z (k + 1) = put (stS z k) (k : Int) 0 (posF z k) := by
      show (add _ _ _ _ _).2 = _
      unfold Ix.add
      rw [if_pos hg]
    rw [e]
    refine ⟨h1.put hg, ?_, h3⟩
    show (stS z k).adds ++ _ = _
    rw [h2, List.range_succ, List.map_append]; rfl
theorem addS {z : Nat → Int} (hz : ∀ i, 1 ≤ z i ∧ z i ≤ 90) (k : Nat) (hk : k ≤ 1000) : add (stS z k) (k : Int) 0 (posF z k) (z k) = (none, stS z (k + 1)) := by
  obtain ⟨h1, h2, h3⟩ := stS_spec hz k hk
  have hp := posF_le hz k
  have hb : behind (stS z k).adds (k : Int) (posF z k) := by
    rw [h2]
    intro a ha
    cases k with
    | zero => cases ha
    | succ k =>
      obtain rfl := (last_range (adI z) k a).1 ha
      have := posF_lt (z := z) (fun i => (hz i).1) (show k < k + 1 by omega)
      simp only [adI]; omega
  have hg : good (stS z k) (k : Int) 0 (posF z k) (z k) := ⟨⟨by omega, by omega⟩, ⟨by omega, by omega⟩, (hz k).1, ⟨by omega, by omega⟩, hb⟩
  show add _ _ _ _ _ = (none, (add _ _ _ _ _).2)
  unfold Ix.add
  rw [if_pos hg]
end Go.Proofs.YteeadlefbehhfaaDoor.Ix
namespace Go.Proofs.YteeadlefbehhfaaDoor
def zd (zs : List Int) (k : Nat) : Int := zs.getD k 0 % 60 + 1
theorem zd_le (zs : List Int) (k : Nat) : 1 ≤ zd zs k ∧ zd zs k ≤ 90 := by unfold zd; omega
end Go.Proofs.YteeadlefbehhfaaDoor
